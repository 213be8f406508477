package def

import (
	"fmt"
	"reflect"
	"regexp"
	"slices"
	"strings"
	"testing"

	"odyssey/api"
)

// made is a row of numbers that follow a fixed rule.
type made uint64

func (m *made) below(n int) int {
	*m = *m*6364136223846793005 + 1442695040888963407
	return int(uint64(*m) >> 33 % uint64(n))
}

func (m *made) one(of []string) string { return of[m.below(len(of))] }

// What chapter 10 says of a text, as patterns.
const (
	blankForm = `[\t \x{a0}\x{2003}]`
	nameForm  = `[a-zäöüß\x{3b1}-\x{3c9}][a-zäöüß\x{3b1}-\x{3c9}0-9-]{0,7}`
)

var (
	nameOnly   = regexp.MustCompile(`^` + nameForm + `$`)
	headClause = regexp.MustCompile(`^` + blankForm + `*(` + nameForm + `)` + blankForm + `*$`)
	stepClause = regexp.MustCompile(`^` + blankForm + `*(do|pivot|ever)` + blankForm + `+(` + nameForm + `)` + blankForm + `+@([0-3])((?:` + blankForm + `+[+<]` + nameForm + `)*)` + blankForm + `*$`)
	keyOrNeed  = regexp.MustCompile(`([+<])(` + nameForm + `)`)
)

func slowFold(text string) string {
	return strings.Map(func(r rune) rune {
		if strings.ContainsRune("ABCDEFGHIJKLMNOPQRSTUVWXYZÄÖÜΑΒΓΔΕΖΗΘΙΚΛΜΝΞΟΠΡΣΤΥΦΧΨΩ", r) {
			return r + 32
		}
		return r
	}, text)
}

// slowParse reads a text by the patterns.
func slowParse(text string) (api.Def, int, api.Errno) {
	if len(text) > 1800 {
		return api.Def{}, 0, api.ErrLong
	}
	var d api.Def
	var tails []string
	for i, clause := range strings.Split(slowFold(text), ";") {
		head, step := headClause.FindStringSubmatch(clause), stepClause.FindStringSubmatch(clause)
		switch {
		case i == 0 && head != nil:
			d.Name = head[1]
		case i >= 1 && i <= 8 && step != nil:
			kind := map[string]int{"do": 1, "pivot": 2, "ever": 3}[step[1]]
			d.Steps = append(d.Steps, api.Step{Name: step[2], Kind: kind, Part: int(step[3][0]) - 48})
			tails = append(tails, step[4])
		default:
			return api.Def{}, i, api.ErrDefText
		}
	}
	for i, tail := range tails {
		needed := map[int]bool{}
		for _, word := range keyOrNeed.FindAllStringSubmatch(tail, -1) {
			if word[1] == "+" {
				d.Steps[i].Keys = append(d.Steps[i].Keys, word[2])
				continue
			}
			needed[slices.IndexFunc(d.Steps, func(s api.Step) bool { return s.Name == word[2] })] = true
		}
		if needed[-1] {
			return api.Def{}, i + 1, api.ErrDefText
		}
		for n := range d.Steps {
			if needed[n] {
				d.Steps[i].Needs = append(d.Steps[i].Needs, n)
			}
		}
	}
	return d, 0, api.OK
}

// slowPrint writes whatever it is given, and then asks whether it was allowed.
func slowPrint(d api.Def) (string, api.Errno) {
	names := []string{d.Name}
	text := d.Name
	ok := len(d.Steps) <= 8
	seen := map[string]bool{}
	for _, s := range d.Steps {
		ok = ok && s.Kind >= 1 && s.Kind <= 3 && s.Part >= 0 && s.Part <= 3 && !seen[s.Name]
		seen[s.Name] = true
		names = append(append(names, s.Name), s.Keys...)
		text += fmt.Sprintf("; %s %s @%d", map[int]string{1: "do", 2: "pivot", 3: "ever"}[s.Kind], s.Name, s.Part)
		for _, k := range s.Keys {
			text += " +" + k
		}
		last := -1
		for _, n := range s.Needs {
			if n <= last || n >= len(d.Steps) {
				ok = false
				break
			}
			text += " <" + d.Steps[n].Name
			last = n
		}
	}
	for _, n := range names {
		ok = ok && nameOnly.MatchString(n)
	}
	switch {
	case !ok:
		return "", api.ErrArg
	case len(text) > 1800:
		return "", api.ErrLong
	}
	return text, api.OK
}

func mustBeAsSlow(t *testing.T, text string) api.Errno {
	t.Helper()
	d, clause, err := Parse(text)
	want, wantClause, wantErr := slowParse(text)
	if !alike(d, want) || clause != wantClause || err != wantErr {
		t.Fatalf("F1: Parse(%q) = %v, %d, %d, want %v, %d, %d", text, d, clause, err, want, wantClause, wantErr)
	}
	if err != api.OK && !reflect.DeepEqual(d, api.Def{}) {
		t.Fatalf("R3: Parse(%q) tells %v beside the error %d", text, d, err)
	}
	if err == api.OK {
		mustGoBack(t, d)
	}
	return err
}

// mustGoBack holds a definition to Print's promise and, if it has a text, to P10.1 and P10.2.
func mustGoBack(t *testing.T, d api.Def) api.Errno {
	t.Helper()
	text, err := Print(d)
	if want, wantErr := slowPrint(d); text != want || err != wantErr {
		t.Fatalf("F2: Print(%v) = %q, %d, want %q, %d", d, text, err, want, wantErr)
	}
	if err != api.OK {
		return err
	}
	back, clause, errBack := Parse(text)
	if !alike(back, d) || clause != 0 || errBack != api.OK {
		t.Fatalf("P10.1: Parse(%q) = %v, %d, %d, want %v", text, back, clause, errBack, d)
	}
	if again, errAgain := Print(back); again != text || errAgain != api.OK {
		t.Fatalf("P10.2: Print(%v) = %q, %d, want %q", back, again, errAgain, text)
	}
	return api.OK
}

// The texts of up to four pieces out of a few, all of them, behind a beginning.
func TestParseShortRows(t *testing.T) {
	pieces := []string{"a", " ", ";", "do b @0", "<", "+", "@", "1"}
	counts := map[api.Errno]int{}
	for _, begin := range []string{"", "a;do ", "a;do b @0", "a;do b @0 ", "a;do b @0;ever c @3 <"} {
		rows := []string{begin}
		for range 5 {
			var longer []string
			for _, row := range rows {
				counts[mustBeAsSlow(t, row)]++
				for _, p := range pieces {
					longer = append(longer, row+p)
				}
			}
			rows = longer
		}
	}
	if counts[api.OK] < 100 || counts[api.ErrDefText] < 10000 {
		t.Errorf("the rows are not what they should be: %v", counts)
	}
}

// At each place of a text each byte in the place of the one there, left out, or put in.
func TestParseEachByteChanged(t *testing.T) {
	for _, text := range []string{"Ab; do c @1 +k <d; EVER d @3 <c", "α;pivot ß1 @0"} {
		for at := range len(text) {
			mustBeAsSlow(t, text[:at]+text[at+1:])
			for b := range 256 {
				mustBeAsSlow(t, text[:at]+string([]byte{byte(b)})+text[at+1:])
				mustBeAsSlow(t, text[:at]+string([]byte{byte(b)})+text[at:])
			}
		}
	}
}

// At the places where a name, a sign, a kind or a blank is looked for, every rune of the first planes.
func TestParseEachRune(t *testing.T) {
	for _, at := range []string{"%c", "a;%c b @0", "a;do %c @0", "a;do b @%c", "a;do b %c0", "a;do b @0 +%c", "a;do b @0 +k%c", "a;do b @0 %cb", "a;do b @0%c+k", "a%cdo b @0", "a;do%cb @0"} {
		for r := rune(0); r < 0x3100; r++ {
			mustBeAsSlow(t, fmt.Sprintf(at, r))
		}
	}
}

var (
	someNames = []string{"a", "b", "c", "do", "ever", "ß-1", "λ2", "abcdefgh", "ααααωωωω"}
	badNames  = []string{"", "1", "-", "abcdefghi", "a_", "ñ", "\xff", "\u03a2", "a;", "b c"}
	badWords  = []string{"+", "<", "@", "@0", "@4", "@00", "+1", "<1", "x", "do", ";", "+k;", "\xff", "+ k", "<none"}
	blanks    = []string{" ", "\t", "\u00a0", "\u2003", "  "}
)

// clause is a step's clause, now and then a wrong one.
func (m *made) clause(mistakes int) []string {
	words := []string{m.one([]string{"do", "pivot", "ever"}), m.one(someNames), m.one([]string{"@0", "@1", "@2", "@3"})}
	for range m.below(4) {
		words = append(words, m.one([]string{"+", "<"})+m.one(someNames))
	}
	for range mistakes {
		at := m.below(len(words))
		switch m.below(4) {
		case 0:
			words[at] = m.one(badWords)
		case 1:
			words[at] = words[at] + m.one(badNames)
		case 2:
			words = slices.Insert(words, at, m.one(badWords))
		case 3:
			words = slices.Delete(words, at, at+1)
			if len(words) == 0 {
				return words
			}
		}
	}
	return words
}

// spread writes words with any blanks, and any letters great that may be.
func (m *made) spread(clauses [][]string) string {
	var pieces []string
	for _, words := range clauses {
		piece := m.maybeBlank()
		for i, w := range words {
			if i > 0 {
				piece += m.one(blanks) + m.maybeBlank()
			}
			piece += m.great(w)
		}
		pieces = append(pieces, piece+m.maybeBlank())
	}
	return strings.Join(pieces, ";")
}

func (m *made) maybeBlank() string {
	if m.below(2) == 0 {
		return ""
	}
	return m.one(blanks)
}

func (m *made) great(word string) string {
	return strings.Map(func(r rune) rune {
		if m.below(2) == 0 && slowFold(string(r-32)) == string(r) {
			return r - 32
		}
		return r
	}, word)
}

func TestParseLongRows(t *testing.T) {
	m := made(10)
	counts := map[api.Errno]int{}
	for range 30000 {
		clauses := [][]string{{m.one(someNames)}}
		for range m.below(11) {
			clauses = append(clauses, m.clause(m.below(12)/11))
		}
		counts[mustBeAsSlow(t, m.spread(clauses))]++
	}
	if counts[api.OK] < 1000 || counts[api.ErrDefText] < 1000 {
		t.Errorf("the rows are not what they should be: %v", counts)
	}
}

// definition is one that Print takes, as long as it isn't too long.
func (m *made) definition() api.Def {
	d := api.Def{Name: m.one(someNames)}
	steps := m.below(9)
	first := m.below(len(someNames))
	keys := 3
	if m.below(4) == 0 {
		keys = 80
	}
	for i := range steps {
		s := api.Step{Name: someNames[(first+i)%len(someNames)], Kind: 1 + m.below(3), Part: m.below(4)}
		for range m.below(keys) {
			s.Keys = append(s.Keys, m.one(someNames))
		}
		for n := range steps {
			if m.below(3) == 0 {
				s.Needs = append(s.Needs, n)
			}
		}
		d.Steps = append(d.Steps, s)
	}
	return d
}

// spoil makes something of a definition wrong, if it comes to that.
func (m *made) spoil(d *api.Def) {
	if len(d.Steps) == 0 {
		d.Name = m.one(badNames)
		return
	}
	s := &d.Steps[m.below(len(d.Steps))]
	switch m.below(8) {
	case 0:
		d.Name = m.one(badNames)
	case 1:
		s.Name = m.one(badNames)
	case 2:
		s.Name = m.one(someNames)
	case 3:
		s.Kind = m.below(7) - 1
	case 4:
		s.Part = m.below(7) - 1
	case 5:
		s.Keys = append(s.Keys, m.one(badNames))
	case 6:
		s.Needs = append(s.Needs, m.below(11)-1)
	case 7:
		d.Steps = append(d.Steps, *s)
	}
}

func TestPrintLongRows(t *testing.T) {
	m := made(101)
	counts := map[api.Errno]int{}
	for range 20000 {
		d := m.definition()
		if m.below(3) == 0 {
			m.spoil(&d)
		}
		counts[mustGoBack(t, d)]++
	}
	if counts[api.OK] < 1000 || counts[api.ErrArg] < 1000 || counts[api.ErrLong] < 100 {
		t.Errorf("the rows are not what they should be: %v", counts)
	}
}

// shuffled gives the words of each step's needs other places among themselves, and some of them twice. Keys stay in their order.
func (m *made) shuffled(clauses [][]string) [][]string {
	var other [][]string
	for i, words := range clauses {
		if i == 0 {
			other = append(other, words)
			continue
		}
		row := slices.Clone(words[:3])
		var needs []string
		for _, w := range words[3:] {
			if w[0] == '+' {
				row = append(row, w)
				continue
			}
			needs = append(needs, w)
			if m.below(3) == 0 {
				needs = append(needs, w)
			}
		}
		for _, w := range needs {
			row = slices.Insert(row, 3+m.below(len(row)-2), w)
		}
		other = append(other, row)
	}
	return other
}

func TestAlike(t *testing.T) {
	m := made(103)
	asked := 0
	for range 20000 {
		clauses := [][]string{{m.one(someNames)}}
		for range m.below(9) {
			clauses = append(clauses, m.clause(0))
		}
		var plain []string
		for _, words := range clauses {
			plain = append(plain, strings.Join(words, " "))
		}
		text := strings.Join(plain, ";")
		want, clause, err := Parse(text)
		if err != api.OK {
			// Where a need has no step the texts differ in nothing either.
			other := m.spread(m.shuffled(clauses))
			if d, at, e := Parse(other); !alike(d, want) || at != clause || e != err {
				t.Fatalf("P10.3: Parse(%q) = %v, %d, %d, but Parse(%q) = %v, %d, %d", text, want, clause, err, other, d, at, e)
			}
			continue
		}
		asked++
		for range 3 {
			other := m.spread(m.shuffled(clauses))
			if d, at, e := Parse(other); !alike(d, want) || at != 0 || e != api.OK {
				t.Fatalf("P10.3: Parse(%q) = %v, but Parse(%q) = %v, %d, %d", text, want, other, d, at, e)
			}
		}
	}
	if asked < 2000 {
		t.Errorf("only %d texts were definitions", asked)
	}
}

func TestAlikeExamples(t *testing.T) {
	for _, texts := range [][]string{
		{tripText, "TRIP;DO HOTEL @1 +ROOM;DO CAR @0 <HOTEL;PIVOT PAY @2;EVER MAIL @3", "\ttrip\u2003;  do \u00a0hotel @1\t+room ;do car @0 <hotel <hotel; pivot pay @2; ever mail @3 "},
		{"a;do b @0 <b <c +k;do c @0", "a;do b @0 <c <b +k;do c @0", "a;do b @0 +k <c <b <c;do c @0", "A;do b @0 <c +K <b;do C @0"},
		{"äöü;do αω @0", "ÄÖÜ;DO ΑΩ @0", "Äöü;Do αΩ @0"},
	} {
		want, _, err := Parse(texts[0])
		if err != api.OK {
			t.Fatalf("F1: Parse(%q) = %d", texts[0], err)
		}
		for _, text := range texts {
			mustParse(t, text, want)
			mustGoBack(t, want)
		}
	}
}

// Needs of a step are each once, but its keys are as they stand.
func TestKeysStandAsTheyAre(t *testing.T) {
	for _, c := range []struct {
		text string
		keys []string
	}{
		{"a;do b @0 +k +l", []string{"k", "l"}},
		{"a;do b @0 +l +k", []string{"l", "k"}},
		{"a;do b @0 +k +k +l +k", []string{"k", "k", "l", "k"}},
		{"a;do b @0 <b +l <b +k <b", []string{"l", "k"}},
	} {
		d, _, _ := Parse(c.text)
		if len(d.Steps) != 1 || !slices.Equal(d.Steps[0].Keys, c.keys) {
			t.Errorf("F1: Parse(%q) = %v, want the keys %q", c.text, d, c.keys)
		}
	}
}
