package codec

import (
	"fmt"
	"math"
	"reflect"
	"regexp"
	"slices"
	"strings"
	"testing"
	"unicode/utf8"

	"odyssey/api"
)

// forms: what the document's examples and its words about forms say, each kind at least once.
var forms = []struct {
	value any
	form  string
}{
	{api.Letter{Kind: api.LetterUndo, Part: 2, Inst: 5, Step: 1}, "L\x02\x02\x05\x01"},
	{api.Letter{Kind: api.LetterDo, Part: 1, Inst: 5, Sort: 1, Keys: []string{"room"}}, "L\x01\x01\x05\x00\x01\x01\x04room"},
	{api.Letter{Kind: api.LetterDo, Part: 3, Inst: 60, Step: 7, Sort: 3}, "L\x01\x03\x3c\x07\x03\x00"},
	{api.Letter{Kind: api.LetterDo, Inst: 1, Sort: 2, Keys: []string{"a", "b"}}, "L\x01\x00\x01\x00\x02\x02\x01a\x01b"},
	{api.Letter{Kind: api.LetterDo, Inst: 1, Sort: 1, Keys: []string{"z", "ä"}}, "L\x01\x00\x01\x00\x01\x02\x01z\x02ä"},
	{api.Letter{Kind: api.LetterDo, Inst: 1, Sort: 1, Keys: []string{"ααααωωωω"}}, "L\x01\x00\x01\x00\x01\x01\x10ααααωωωω"},
	{api.Letter{Kind: api.LetterFree, Part: 1, Inst: 5}, "L\x03\x01\x05"},
	{api.Letter{Kind: api.LetterDone, Part: 0, Inst: 1, Step: 0}, "L\x04\x00\x01\x00"},
	{api.Letter{Kind: api.LetterNo, Part: 3, Inst: 60, Step: 7}, "L\x05\x03\x3c\x07"},
	{api.Letter{Kind: api.LetterBusy, Part: 1, Inst: 2, Step: 3}, "L\x06\x01\x02\x03"},
	{api.Letter{Kind: api.LetterUndone, Part: 1, Inst: 2, Step: 3}, "L\x07\x01\x02\x03"},
	{api.Letter{Kind: api.LetterAgain, Part: 1, Inst: 2, Step: 3}, "L\x08\x01\x02\x03"},
	{api.Letter{Kind: api.LetterFreed, Part: 1, Inst: 2}, "L\x09\x01\x02"},

	{api.Event{Kind: api.EventDo, Inst: 5}, "E\x01\x05\x00\x00"},
	{api.Event{Kind: api.EventDo, Inst: 60, Step: 7, Keys: []string{"room"}}, "E\x01\x3c\x07\x01\x04room"},
	{api.Event{Kind: api.EventDo, Inst: 1, Step: 1, Keys: []string{"a", "ab"}}, "E\x01\x01\x01\x02\x01a\x02ab"},
	{api.Event{Kind: api.EventNo, Inst: 1, Step: 2}, "E\x02\x01\x02"},
	{api.Event{Kind: api.EventBusy, Inst: 1, Step: 2}, "E\x03\x01\x02"},
	{api.Event{Kind: api.EventBar, Inst: 1, Step: 2}, "E\x04\x01\x02"},
	{api.Event{Kind: api.EventUndo, Inst: 1, Step: 2}, "E\x05\x01\x02"},
	{api.Event{Kind: api.EventFree, Inst: 5}, "E\x06\x05"},

	{api.Note{Kind: api.NoteDef, Text: "a"}, "N\x01\x01a"},
	{api.Note{Kind: api.NoteDef, Text: "\x00\xff"}, "N\x01\x02\x00\xff"},
	{api.Note{Kind: api.NoteDef, Text: longText(api.MaxText)}, "N\x01\x88\x0e" + longText(api.MaxText)},
	{api.Note{Kind: api.NoteStart, Inst: 5, Key: "c1", Name: "trip", Version: 1}, "N\x02\x05\x02c1\x04trip\x01"},
	{api.Note{Kind: api.NoteStart, Inst: 60, Key: "c1", Name: "c1", Version: 16}, "N\x02\x3c\x02c1\x02c1\x10"},
	{api.Note{Kind: api.NoteCancel, Inst: 5}, "N\x03\x05"},
	{api.Note{Kind: api.NoteLate, Inst: 5}, "N\x04\x05"},
	{api.Note{Kind: api.NoteIssue, Inst: 5, Step: 7}, "N\x05\x05\x07"},
	{api.Note{Kind: api.NoteMark, Inst: 5, Step: 1, State: api.StepDone}, "N\x06\x05\x01\x02"},
	{api.Note{Kind: api.NoteMark, Inst: 5, State: api.StepNo}, "N\x06\x05\x00\x03"},
	{api.Note{Kind: api.NoteMark, Inst: 5, State: api.StepBusy}, "N\x06\x05\x00\x04"},
	{api.Note{Kind: api.NoteMark, Inst: 5, State: api.StepUndone}, "N\x06\x05\x00\x05"},
	{api.Note{Kind: api.NoteEnd, Inst: 5}, "N\x07\x05"},
	{api.Note{Kind: api.NoteFreed, Inst: 5, Part: 3}, "N\x08\x05\x03"},
	{api.Note{Kind: api.NoteFreed, Inst: 5}, "N\x08\x05\x00"},
	{api.Note{Kind: api.NoteBrief, Inst: 5, State: api.Aborted, Cause: 3}, "N\x09\x05\x06\x03"},
	{api.Note{Kind: api.NoteBrief, Inst: 5, State: api.Committed}, "N\x09\x05\x04\x00"},
}

// short tells a value in few words.
func short(v any) string { return fmt.Sprintf("%.100s", fmt.Sprintf("%+v", v)) }

func longText(size int) string { return strings.Repeat("y", size) }

// written is what the package writes of a letter, an event or a note.
func written(v any) (string, api.Errno) {
	switch x := v.(type) {
	case api.Letter:
		return Letter(x)
	case api.Event:
		return Event(x)
	}
	return Note(v.(api.Note))
}

// whatOf is what What has to tell of the form of a value.
func whatOf(v any) int {
	switch v.(type) {
	case api.Letter:
		return 1
	case api.Event:
		return 2
	}
	return 3
}

// mustRead holds the four calls that read to what a form stands for.
func mustRead(t *testing.T, s string, want any) {
	t.Helper()
	l, lErr := ReadLetter(s)
	e, eErr := ReadEvent(s)
	n, nErr := ReadNote(s)
	reads := []struct {
		value, zero any
		err         api.Errno
	}{{l, api.Letter{}, lErr}, {e, api.Event{}, eErr}, {n, api.Note{}, nErr}}
	for i, r := range reads {
		err, value := api.ErrCodecForm, r.zero
		if want != nil && whatOf(want) == i+1 {
			err, value = api.OK, want
		}
		if r.err != err || !alike(r.value, value) {
			t.Errorf("P7.2: %.60q read as a %T: %s, %d, want %s, %d", s, r.zero, short(r.value), r.err, short(value), err)
		}
	}
	what := 0
	if want != nil {
		what = whatOf(want)
	}
	if got := What(s); got != what {
		t.Errorf("P7.3: What(%.60q) = %d, want %d", s, got, what)
	}
}

// alike tells whether two values are the same, but that an empty list may be nil.
func alike(a, b any) bool {
	return reflect.DeepEqual(plain(a), plain(b))
}

func plain(v any) any {
	switch x := v.(type) {
	case api.Letter:
		x.Keys = append([]string{}, x.Keys...)
		return x
	case api.Event:
		x.Keys = append([]string{}, x.Keys...)
		return x
	}
	return v
}

func TestForms(t *testing.T) {
	for _, c := range forms {
		if s, err := written(c.value); s != c.form || err != api.OK {
			t.Errorf("P7.1: %s: %.60q, %d, want %.60q", short(c.value), s, err, c.form)
		}
		mustRead(t, c.form, c.value)
	}
}

func TestAnEmptyListOfKeysIsNone(t *testing.T) {
	if s, err := Letter(api.Letter{Kind: api.LetterUndo, Part: 2, Inst: 5, Step: 1, Keys: []string{}}); s != "L\x02\x02\x05\x01" || err != api.OK {
		t.Errorf("P7.1: %q, %d", s, err)
	}
	if s, err := Event(api.Event{Kind: api.EventFree, Inst: 5, Keys: []string{}}); s != "E\x06\x05" || err != api.OK {
		t.Errorf("P7.1: %q, %d", s, err)
	}
	if s, err := Event(api.Event{Kind: api.EventDo, Inst: 5, Keys: []string{}}); s != "E\x01\x05\x00\x00" || err != api.OK {
		t.Errorf("P7.1: %q, %d", s, err)
	}
}

func TestRefusedLetters(t *testing.T) {
	do := api.Letter{Kind: api.LetterDo, Inst: 1, Sort: 1}
	for what, change := range map[string]func(*api.Letter){
		"of zero values":       func(l *api.Letter) { *l = api.Letter{} },
		"kind 0":               func(l *api.Letter) { l.Kind = 0 },
		"kind 10":              func(l *api.Letter) { *l = api.Letter{Kind: 10, Inst: 1} },
		"kind -1":              func(l *api.Letter) { *l = api.Letter{Kind: -1, Inst: 1} },
		"part -1":              func(l *api.Letter) { l.Part = -1 },
		"part 4":               func(l *api.Letter) { l.Part = 4 },
		"id 0":                 func(l *api.Letter) { l.Inst = 0 },
		"id 61":                func(l *api.Letter) { l.Inst = 61 },
		"step -1":              func(l *api.Letter) { l.Step = -1 },
		"step 8":               func(l *api.Letter) { l.Step = 8 },
		"sort 0":               func(l *api.Letter) { l.Sort = 0 },
		"sort 4":               func(l *api.Letter) { l.Sort = 4 },
		"three keys":           func(l *api.Letter) { l.Keys = []string{"a", "b", "c"} },
		"keys that fall":       func(l *api.Letter) { l.Keys = []string{"b", "a"} },
		"a key twice":          func(l *api.Letter) { l.Keys = []string{"a", "a"} },
		"an empty key":         func(l *api.Letter) { l.Keys = []string{""} },
		"a great letter":       func(l *api.Letter) { l.Keys = []string{"a", "B"} },
		"a key of nine":        func(l *api.Letter) { l.Keys = []string{"abcdefghi"} },
		"a key that is none":   func(l *api.Letter) { l.Keys = []string{"\xff"} },
		"an undo with a sort":  func(l *api.Letter) { *l = api.Letter{Kind: api.LetterUndo, Inst: 1, Sort: 1} },
		"an undo with a key":   func(l *api.Letter) { *l = api.Letter{Kind: api.LetterUndo, Inst: 1, Keys: []string{"a"}} },
		"an undo of step 8":    func(l *api.Letter) { *l = api.Letter{Kind: api.LetterUndo, Inst: 1, Step: 8} },
		"a free with a step":   func(l *api.Letter) { *l = api.Letter{Kind: api.LetterFree, Part: 1, Inst: 5, Step: 1} },
		"a free with a key":    func(l *api.Letter) { *l = api.Letter{Kind: api.LetterFree, Part: 1, Inst: 5, Keys: []string{"a"}} },
		"a freed with a sort":  func(l *api.Letter) { *l = api.Letter{Kind: api.LetterFreed, Part: 1, Inst: 5, Sort: 1} },
		"a freed with a step":  func(l *api.Letter) { *l = api.Letter{Kind: api.LetterFreed, Part: 1, Inst: 5, Step: 1} },
		"a free with an empty": func(l *api.Letter) { *l = api.Letter{Kind: api.LetterFree, Part: 1, Inst: 5, Keys: []string{""}} },
		"a done with a sort":   func(l *api.Letter) { *l = api.Letter{Kind: api.LetterDone, Inst: 1, Sort: 1} },
	} {
		l := do
		change(&l)
		if s, err := Letter(l); s != "" || err != api.ErrArg {
			t.Errorf("P7.1: %s: %q, %d, want ErrArg", what, s, err)
		}
	}
}

func TestRefusedEvents(t *testing.T) {
	for what, e := range map[string]api.Event{
		"of zero values":       {},
		"kind 0":               {Inst: 1},
		"kind 7":               {Kind: 7, Inst: 1},
		"kind -1":              {Kind: -1, Inst: 1},
		"id 0":                 {Kind: api.EventFree},
		"id 61":                {Kind: api.EventFree, Inst: 61},
		"id -1":                {Kind: api.EventDo, Inst: -1},
		"step -1":              {Kind: api.EventNo, Inst: 1, Step: -1},
		"step 8":               {Kind: api.EventBusy, Inst: 1, Step: 8},
		"a do of step 8":       {Kind: api.EventDo, Inst: 1, Step: 8},
		"three keys":           {Kind: api.EventDo, Inst: 1, Keys: []string{"a", "b", "c"}},
		"keys that fall":       {Kind: api.EventDo, Inst: 1, Keys: []string{"ω", "ä"}},
		"a key twice":          {Kind: api.EventDo, Inst: 1, Keys: []string{"room", "room"}},
		"a key that is none":   {Kind: api.EventDo, Inst: 1, Keys: []string{"a", "b c"}},
		"a no with a key":      {Kind: api.EventNo, Inst: 1, Keys: []string{"a"}},
		"a busy with a key":    {Kind: api.EventBusy, Inst: 1, Keys: []string{"a"}},
		"a bar with a key":     {Kind: api.EventBar, Inst: 1, Keys: []string{"a"}},
		"an undo with a key":   {Kind: api.EventUndo, Inst: 1, Keys: []string{"a"}},
		"a free with a key":    {Kind: api.EventFree, Inst: 1, Keys: []string{"a"}},
		"a free with a step":   {Kind: api.EventFree, Inst: 1, Step: 1},
		"a free with an empty": {Kind: api.EventFree, Inst: 1, Keys: []string{""}},
	} {
		if s, err := Event(e); s != "" || err != api.ErrArg {
			t.Errorf("P7.1: %s: %q, %d, want ErrArg", what, s, err)
		}
	}
}

func TestRefusedNotes(t *testing.T) {
	for what, n := range map[string]api.Note{
		"of zero values":          {},
		"kind 10":                 {Kind: 10, Inst: 1},
		"kind -1":                 {Kind: -1, Inst: 1},
		"no text":                 {Kind: api.NoteDef},
		"a long text":             {Kind: api.NoteDef, Text: longText(api.MaxText + 1)},
		"a text that pack has":    {Kind: api.NoteDef, Text: longText(api.MaxPiece)},
		"one that it refuses":     {Kind: api.NoteDef, Text: longText(api.MaxPiece + 1)},
		"a def with an id":        {Kind: api.NoteDef, Inst: 1, Text: "a"},
		"a def with a name":       {Kind: api.NoteDef, Name: "a", Text: "a"},
		"a start without key":     {Kind: api.NoteStart, Inst: 1, Name: "a", Version: 1},
		"a start without name":    {Kind: api.NoteStart, Inst: 1, Key: "a", Version: 1},
		"a key that is none":      {Kind: api.NoteStart, Inst: 1, Key: "A", Name: "a", Version: 1},
		"a name that is none":     {Kind: api.NoteStart, Inst: 1, Key: "a", Name: "1a", Version: 1},
		"version 0":               {Kind: api.NoteStart, Inst: 1, Key: "a", Name: "a"},
		"version 17":              {Kind: api.NoteStart, Inst: 1, Key: "a", Name: "a", Version: 17},
		"a start of 61":           {Kind: api.NoteStart, Inst: 61, Key: "a", Name: "a", Version: 1},
		"a start with a text":     {Kind: api.NoteStart, Inst: 1, Key: "a", Name: "a", Version: 1, Text: "a"},
		"a cancel of 0":           {Kind: api.NoteCancel},
		"a cancel with a cause":   {Kind: api.NoteCancel, Inst: 1, Cause: api.CauseCancel},
		"a late with a step":      {Kind: api.NoteLate, Inst: 1, Step: 1},
		"an end with a state":     {Kind: api.NoteEnd, Inst: 1, State: api.Committed},
		"an issue of step 8":      {Kind: api.NoteIssue, Inst: 1, Step: 8},
		"an issue of step -1":     {Kind: api.NoteIssue, Inst: 1, Step: -1},
		"an issue with a state":   {Kind: api.NoteIssue, Inst: 1, State: api.StepSent},
		"a mark: idle":            {Kind: api.NoteMark, Inst: 1, State: api.StepIdle},
		"a mark: sent":            {Kind: api.NoteMark, Inst: 1, State: api.StepSent},
		"a mark: 6":               {Kind: api.NoteMark, Inst: 1, State: api.StepUndone + 1},
		"a mark with a part":      {Kind: api.NoteMark, Inst: 1, State: api.StepDone, Part: 1},
		"a freed of part 4":       {Kind: api.NoteFreed, Inst: 1, Part: 4},
		"a freed of part -1":      {Kind: api.NoteFreed, Inst: 1, Part: -1},
		"a freed with a step":     {Kind: api.NoteFreed, Inst: 1, Part: 1, Step: 1},
		"a brief without a state": {Kind: api.NoteBrief, Inst: 1},
		"a brief: completing":     {Kind: api.NoteBrief, Inst: 1, State: api.Completing},
		"a brief: backward":       {Kind: api.NoteBrief, Inst: 1, State: api.Backward, Cause: api.CauseLate},
		"a commit with a cause":   {Kind: api.NoteBrief, Inst: 1, State: api.Committed, Cause: api.CauseCancel},
		"an abort without cause":  {Kind: api.NoteBrief, Inst: 1, State: api.Aborted},
		"an abort of cause 5":     {Kind: api.NoteBrief, Inst: 1, State: api.Aborted, Cause: 5},
		"an abort of cause -1":    {Kind: api.NoteBrief, Inst: 1, State: api.Aborted, Cause: -1},
	} {
		if s, err := Note(n); s != "" || err != api.ErrArg {
			t.Errorf("P7.1: %s: %.60q, %d, want ErrArg", what, s, err)
		}
	}
}

// fieldsOf: which fields a kind names, by the document's words and table.
func fieldsOf(v any, kind int) (string, bool) {
	var rows []string
	switch v.(type) {
	case api.Letter:
		rows = []string{"", "Part Inst Step Sort Keys", "Part Inst Step", "Part Inst", "Part Inst Step", "Part Inst Step", "Part Inst Step", "Part Inst Step", "Part Inst Step", "Part Inst"}
	case api.Event:
		rows = []string{"", "Inst Step Keys", "Inst Step", "Inst Step", "Inst Step", "Inst Step", "Inst"}
	default:
		rows = []string{"", "Text", "Inst Key Name Version", "Inst", "Inst", "Inst Step", "Inst Step State", "Inst", "Inst Part", "Inst State Cause"}
	}
	if kind < 1 || kind >= len(rows) {
		return "", false
	}
	return rows[kind], true
}

// slowForm is a value's form by the document: field by field, in the order of api's type; false, if the value may not be.
func slowForm(v any) (string, bool) {
	fields := reflect.ValueOf(v)
	kind := int(fields.Field(0).Int())
	row, known := fieldsOf(v, kind)
	if !known {
		return "", false
	}
	form := string(" LEN"[whatOf(v)]) + slowNum(kind)
	for i := 1; i < fields.NumField(); i++ {
		name, field := fields.Type().Field(i).Name, fields.Field(i)
		if !slices.Contains(strings.Fields(row), name) {
			if !field.IsZero() && (name != "Keys" || field.Len() > 0) {
				return "", false
			}
			continue
		}
		if !slices.Contains(goodOf(v, name), field.Interface()) && !goodKeys(field.Interface()) && !goodText(name, field.Interface()) {
			return "", false
		}
		form += slowField(field.Interface())
	}
	return form, true
}

// goodOf: which numbers a field may have, if its kind names it.
func goodOf(v any, field string) []any {
	n, _ := v.(api.Note)
	switch {
	case field == "Part":
		return []any{0, 1, 2, 3}
	case field == "Inst":
		return span(1, 60)
	case field == "Step":
		return span(0, 7)
	case field == "Sort":
		return []any{api.Compensatable, api.Pivot, api.Retriable}
	case field == "Version":
		return span(1, 16)
	case field == "State" && n.Kind == api.NoteMark:
		return []any{api.StepDone, api.StepNo, api.StepBusy, api.StepUndone}
	case field == "State":
		return []any{api.Committed, api.Aborted}
	case field == "Cause" && n.State == api.Committed:
		return []any{0}
	case field == "Cause":
		return []any{1, 2, 3, 4}
	}
	return nil
}

func span(least, most int) []any {
	var numbers []any
	for n := least; n <= most; n++ {
		numbers = append(numbers, n)
	}
	return numbers
}

// nameForm is what a name is, by chapter 1.
var nameForm = regexp.MustCompile(`^[a-zäöüßα-ω][a-zäöüßα-ω0-9-]{0,7}$`)

func goodKeys(v any) bool {
	keys, is := v.([]string)
	if !is || len(keys) > 2 {
		return false
	}
	for _, key := range keys {
		if !goodText("Key", key) {
			return false
		}
	}
	return len(keys) < 2 || slices.Compare([]rune(keys[0]), []rune(keys[1])) < 0
}

func goodText(field string, v any) bool {
	s, is := v.(string)
	if field == "Text" {
		return is && len(s) >= 1 && len(s) <= 1800
	}
	return is && utf8.ValidString(s) && nameForm.MatchString(s)
}

func slowNum(n int) string {
	if n < 128 {
		return string([]byte{byte(n)})
	}
	return string([]byte{byte(128 + n%128)}) + slowNum(n/128)
}

func slowField(v any) string {
	switch x := v.(type) {
	case int:
		return slowNum(x)
	case string:
		return slowNum(len(x)) + x
	}
	form := slowNum(len(v.([]string)))
	for _, key := range v.([]string) {
		form += slowField(key)
	}
	return form
}

// Three of these texts are names; the first seven of these lists are keys.
var nameTexts = []string{"a", "zug-1", "ααααωωωω", "", "A", "1a", "-a", "a b", "abcdefghi", "ñ", "\xff", "a\xff", "a\n"}

var keyLists = [][]string{
	nil, {"a"}, {"room"}, {"ααααωωωω"}, {"a", "ab"}, {"z", "ä"}, {"ä", "ω"},
	{""}, {"A"}, {"a", ""}, {"a", "a"}, {"b", "a"}, {"ω", "ä"}, {"ab", "a"}, {"1"}, {"a", "\xff"}, {"abcdefghi"}, {"a", "b", "c"}, {"a", "b", "b"}, make([]string, 5000),
}

// tries: what a field is set to in turn.
func tries(field string, kind reflect.Kind) []any {
	switch {
	case field == "Keys":
		return anys(keyLists)
	case field == "Text":
		return anys([]string{"", "a", "\x00\xff", longText(1799), longText(1800), longText(1801), longText(2000), longText(2001)})
	case kind == reflect.String:
		return anys(nameTexts)
	}
	return anys([]int{math.MinInt, -2, -1, 0, 1, 2, 3, 4, 5, 6, 7, 8, 9, 10, 15, 16, 17, 59, 60, 61, 127, 128, 255, 256, 257, 1 << 32, api.MaxNum, api.MaxNum + 1, math.MaxInt})
}

func anys[T any](list []T) []any {
	var out []any
	for _, x := range list {
		out = append(out, x)
	}
	return out
}

// variants calls yield with what a value becomes, if up to two of its fields are set to each of their tries.
func variants(base any, yield func(v any)) {
	fields := reflect.New(reflect.TypeOf(base)).Elem()
	for i := range fields.NumField() {
		for k := i; k < fields.NumField(); k++ {
			for _, x := range tries(fields.Type().Field(i).Name, fields.Field(i).Kind()) {
				for _, y := range tries(fields.Type().Field(k).Name, fields.Field(k).Kind()) {
					fields.Set(reflect.ValueOf(base))
					fields.Field(i).Set(reflect.ValueOf(x))
					fields.Field(k).Set(reflect.ValueOf(y))
					yield(fields.Interface())
				}
			}
		}
	}
}

func TestEveryFieldOfEveryKind(t *testing.T) {
	tried, good := 0, 0
	for _, base := range forms {
		variants(base.value, func(v any) {
			tried++
			s, err := written(v)
			want, may := slowForm(v)
			if !may {
				if s != "" || err != api.ErrArg {
					t.Fatalf("P7.1: %s: %.60q, %d, want ErrArg", short(v), s, err)
				}
				return
			}
			good++
			if s != want || err != api.OK {
				t.Fatalf("P7.1: %s: %.60q, %d, want %.60q", short(v), s, err, want)
			}
			mustRead(t, s, v)
		})
		if t.Failed() {
			return
		}
	}
	if good < 1000 || tried-good < 1000 {
		t.Errorf("%d values, of which %d may be: too few to tell anything", tried, good)
	}
}
