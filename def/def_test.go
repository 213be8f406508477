package def

import (
	"math"
	"reflect"
	"slices"
	"strings"
	"testing"

	"odyssey/api"
)

// alike tells whether two definitions are the same. A list that is nil is one without elements.
func alike(a, b api.Def) bool {
	return a.Name == b.Name && slices.EqualFunc(a.Steps, b.Steps, func(x, y api.Step) bool {
		return x.Name == y.Name && x.Kind == y.Kind && x.Part == y.Part && slices.Equal(x.Keys, y.Keys) && slices.Equal(x.Needs, y.Needs)
	})
}

func mustParse(t *testing.T, text string, want api.Def) {
	t.Helper()
	if d, clause, err := Parse(text); !alike(d, want) || clause != 0 || err != api.OK {
		t.Errorf("F1: Parse(%q) = %v, %d, %d, want %v, 0, %d", text, d, clause, err, want, api.OK)
	}
}

func mustRefuse(t *testing.T, text string, clause int) {
	t.Helper()
	d, at, err := Parse(text)
	if !reflect.DeepEqual(d, api.Def{}) || at != clause || err != api.ErrDefText {
		t.Errorf("F1: Parse(%q) = %v, %d, %d, want nothing, %d, %d", text, d, at, err, clause, api.ErrDefText)
	}
}

func mustPrint(t *testing.T, d api.Def, want string, wantErr api.Errno) {
	t.Helper()
	if text, err := Print(d); text != want || err != wantErr {
		t.Errorf("F2: Print(%.200v) = %.200q, %d, want %.200q, %d", d, text, err, want, wantErr)
	}
}

// one is the definition `a` of these steps.
func one(steps ...api.Step) api.Def { return api.Def{Name: "a", Steps: steps} }

func trip() api.Def {
	return api.Def{Name: "trip", Steps: []api.Step{
		{Name: "hotel", Kind: api.Compensatable, Part: 1, Keys: []string{"room"}},
		{Name: "car", Kind: api.Compensatable, Part: 0, Needs: []int{0}},
		{Name: "pay", Kind: api.Pivot, Part: 2},
		{Name: "mail", Kind: api.Retriable, Part: 3},
	}}
}

const tripText = "trip; do hotel @1 +room; do car @0 <hotel; pivot pay @2; ever mail @3"

func TestParseExamples(t *testing.T) {
	mustParse(t, tripText, trip())
	mustParse(t, "TRIP ;DO a @0 <a +k +k", api.Def{Name: "trip", Steps: []api.Step{{Name: "a", Kind: 1, Keys: []string{"k", "k"}, Needs: []int{0}}}})
	mustParse(t, "trip", api.Def{Name: "trip"})
	mustParse(t, "a; do b @0 <c <c; do c @1", one(api.Step{Name: "b", Kind: 1, Needs: []int{1}}, api.Step{Name: "c", Kind: 1, Part: 1}))
	mustParse(t, "a; do b @0; do b @1; ever c @2 <b",
		one(api.Step{Name: "b", Kind: 1}, api.Step{Name: "b", Kind: 1, Part: 1}, api.Step{Name: "c", Kind: 3, Part: 2, Needs: []int{0}}))
}

func TestParse(t *testing.T) {
	b := api.Step{Name: "b", Kind: 1}
	for _, c := range []struct {
		text string
		want api.Def
	}{
		{"a", api.Def{Name: "a"}},
		{" a\t", api.Def{Name: "a"}},
		{"Äbc-0ω", api.Def{Name: "äbc-0ω"}},
		{"ÄÖÜÄÖÜÄÖ", api.Def{Name: "äöüäöüäö"}},
		{"do; do do @0 +do <do", api.Def{Name: "do", Steps: []api.Step{{Name: "do", Kind: 1, Keys: []string{"do"}, Needs: []int{0}}}}},
		{"a;do b @0", one(b)},
		{"a;\u2003do\u00a0b\t@0 ", one(b)},
		{"a;pivot b @0", one(api.Step{Name: "b", Kind: 2})},
		{"a;ever b @0", one(api.Step{Name: "b", Kind: 3})},
		{"a;PIVOT B @3", one(api.Step{Name: "b", Kind: 2, Part: 3})},
		{"a;eVeR b @1", one(api.Step{Name: "b", Kind: 3, Part: 1})},
		{"a;do b @2", one(api.Step{Name: "b", Kind: 1, Part: 2})},
		{"a;do b @0 +z +y +z", one(api.Step{Name: "b", Kind: 1, Keys: []string{"z", "y", "z"}})},
		{"a;do b @0 +ΑΩ", one(api.Step{Name: "b", Kind: 1, Keys: []string{"αω"}})},
		{"a;do b @0 <B", one(api.Step{Name: "b", Kind: 1, Needs: []int{0}})},
		{"a;do b @0 +k1 <b +k2 <b +k3", one(api.Step{Name: "b", Kind: 1, Keys: []string{"k1", "k2", "k3"}, Needs: []int{0}})},
		{"a;do b @0;do c @0 <b +k", one(b, api.Step{Name: "c", Kind: 1, Keys: []string{"k"}, Needs: []int{0}})},
		{"a;do b @0 <d <c;do c @0;do d @0", one(api.Step{Name: "b", Kind: 1, Needs: []int{1, 2}}, api.Step{Name: "c", Kind: 1}, api.Step{Name: "d", Kind: 1})},
		{"a;do a @0", one(api.Step{Name: "a", Kind: 1})},
		{"a;do b @0;do c @0 <d;do d @0;do d @1", one(b, api.Step{Name: "c", Kind: 1, Needs: []int{2}}, api.Step{Name: "d", Kind: 1}, api.Step{Name: "d", Kind: 1, Part: 1})},
		{"a;do b @0;do b @0 <b", one(b, api.Step{Name: "b", Kind: 1, Needs: []int{0}})},
		{"a;pivot b @0;pivot c @0 <b", one(api.Step{Name: "b", Kind: 2}, api.Step{Name: "c", Kind: 2, Needs: []int{0}})},
	} {
		mustParse(t, c.text, c.want)
	}
}

func TestParseRefusedExamples(t *testing.T) {
	mustRefuse(t, "", 0)
	mustRefuse(t, "a;", 1)
	for _, text := range []string{"a; do b @4", "a; do b", "a; do b @0 c", "a; do b @0 <c", "a; b @0"} {
		mustRefuse(t, text, 1)
	}
	mustRefuse(t, "a b; x", 0)
	mustRefuse(t, "a; do b @0 <c; x", 2)
	mustRefuse(t, "a; do a @0; do b @0; do c @0; do d @0; do e @0; do f @0; do g @0; do h @0; do i @0", 9)
}

func TestParseRefusedHead(t *testing.T) {
	for _, head := range []string{
		"", " ", "\t\u00a0\u2003", "a b", "a a", "1", "-a", "a_b", "a.", "+a", "@0", "do b @0", "abcdefghi", "ααααωωωωα",
		"ñ", "Ñ", "ẞ", "\u03a2", "\xff", "a\xff", "a\nb", "a\n", "\ra", "\x00", "a\x00", "\ufeffa", "a\u2002b", "a\u3000",
	} {
		mustRefuse(t, head, 0)
		// What is wrong further behind doesn't come first.
		mustRefuse(t, head+"; x; do b @0 <c", 0)
		mustRefuse(t, head+"; do b @0", 0)
	}
}

func TestParseRefusedSteps(t *testing.T) {
	for _, step := range []string{
		"", " ", "do", "do b", "b @0", "@0", "do @0", "do @0 b", "b do @0", "do b c @0", "do do b @0",
		"dо b @0", "doo b @0", "d b @0", "pivots b @0", "ever- b @0", "retriable b @0", "1 b @0", "do; b @0",
		"do 1 @0", "do -b @0", "do b_ @0", "do abcdefghi @0", "do ñ @0", "do \xff @0", "do b\xff @0", "do +b @0", "do <b @0",
		"do b @4", "do b @9", "do b @/", "do b @:", "do b @a", "do b @-1", "do b @+1", "do b @00", "do b @01", "do b @10", "do b @0x",
		"do b @", "do b @ 0", "do b 0", "do b #0", "do b 0@", "do b @@0", "do b @０", "do b @٣", "do b @\xff", "do b @0\xff", "do b \xff@0", "do b@0",
		"do b +k", "do b +k @0", "do b <b @0", "do b @0+k", "do b @0<b",
		"do b @0 c", "do b @0 do", "do b @0 @0", "do b @0 @1", "do b @0 0", "do b @0 -", "do b @0 >b", "do b @0 *k", "do b @0 \xff", "do b @0 ÿk",
		"do b @0 +", "do b @0 <", "do b @0 @", "do b @0 + k", "do b @0 < b", "do b @0 +k +", "do b @0 <b <", "do b @0 + +k",
		"do b @0 ++k", "do b @0 +<k", "do b @0 <+b", "do b @0 <<b", "do b @0 +k+k", "do b @0 <b<b", "do b @0 k+", "do b @0 b<",
		"do b @0 +1", "do b @0 +-k", "do b @0 +k_", "do b @0 +abcdefghi", "do b @0 +ñ", "do b @0 +Ñ", "do b @0 +\xff", "do b @0 +k\xff", "do b @0 \xff+k",
		"do b @0 <1", "do b @0 <-b", "do b @0 <b_", "do b @0 <abcdefghi", "do b @0 <ñ", "do b @0 <\xff", "do b @0 <b\xff",
		"do b\n@0", "do b @0\n", "do\u2002b @0", "do b @0\x00", "\x00do b @0", "do b @0 +k,", "do b @0, +k",
	} {
		mustRefuse(t, "a;"+step, 1)
		mustRefuse(t, "a; do c @0 <c;"+step+"; do d @0", 2)
		// A need of which there is no step comes behind all clauses.
		mustRefuse(t, "a; do c @0 <none;"+step, 2)
		mustRefuse(t, "a;"+strings.Repeat("do c @0;", 7)+step, 8)
	}
}

func TestParseRefusedNeeds(t *testing.T) {
	mustRefuse(t, "a; do b @0 <a", 1)
	mustRefuse(t, "a; do b @0 <c", 1)
	mustRefuse(t, "a; do b @0 +c <c", 1)
	mustRefuse(t, "a; do b @0 <b <c <b", 1)
	mustRefuse(t, "a; do b @0 <c; do c @0 <d", 2)
	mustRefuse(t, "a; do b @0 <d; do c @0 <e", 1)
	mustRefuse(t, "a; do b @0; do c @0; do d @0 <bc", 3)
	mustRefuse(t, "a; do bc @0; do c @0; do d @0 <b", 3)
	mustRefuse(t, "a; do b @0; do c @0; do d @0 <x; do e @0 <y", 3)
	mustRefuse(t, "a"+strings.Repeat("; do b @0", 7)+"; do c @0 <x", 8)
}

func TestParseEmptyClauses(t *testing.T) {
	mustRefuse(t, ";", 0)
	mustRefuse(t, ";a", 0)
	mustRefuse(t, ";;;;;;;;;;;;", 0)
	mustRefuse(t, "a;;", 1)
	mustRefuse(t, "a; ;do b @0", 1)
	mustRefuse(t, "a;do b @0;", 2)
	mustRefuse(t, "a;do b @0; \u2003 ", 2)
	mustRefuse(t, "a;do b @0;;do c @0", 2)
}

func TestParseSteps(t *testing.T) {
	eight := "a"
	want := api.Def{Name: "a"}
	for i := range 8 {
		n := string(rune('b' + i))
		eight += ";do " + n + " @0"
		want.Steps = append(want.Steps, api.Step{Name: n, Kind: 1})
		mustParse(t, eight, want)
	}
	want.Steps[7].Needs = []int{0, 1, 2, 3, 4, 5, 6, 7}
	mustParse(t, eight+" <i <h <g <f <e <d <c <b", want)
	// The ninth step is wrong, whether it is a clause or none, and whatever stands behind it.
	for _, ninth := range []string{";do j @0", ";", "; x", ";do j @0;do k @0", ";do j @0;", ";do j @0 <none"} {
		mustRefuse(t, eight+ninth, 9)
		// It comes ahead of needs.
		mustRefuse(t, eight+" <none"+ninth, 9)
	}
	mustRefuse(t, "a;x"+eight[1:], 1)
	mustRefuse(t, eight[:len(eight)-1]+"4;do j @0", 8)
}

func TestParseLength(t *testing.T) {
	for _, c := range []struct {
		text string
		err  api.Errno
	}{
		{strings.Repeat(" ", 1799) + "A", api.OK},
		{"A" + strings.Repeat(" ", 1799), api.OK},
		{strings.Repeat(" ", 1800) + "a", api.ErrLong},
		{"a" + strings.Repeat(" ", 1800), api.ErrLong},
		// 900 blanks of two bytes each are 1800 bytes.
		{strings.Repeat("\u00a0", 899) + " a", api.OK},
		{strings.Repeat("\u00a0", 900) + "a", api.ErrLong},
		{"", api.ErrDefText},
		{strings.Repeat(" ", 1800), api.ErrDefText},
		{strings.Repeat(" ", 1801), api.ErrLong},
		{strings.Repeat(";", 1800), api.ErrDefText},
		{strings.Repeat(";", 1801), api.ErrLong},
		{strings.Repeat("a", 1800), api.ErrDefText},
		{strings.Repeat("\xff", 1801), api.ErrLong},
		{strings.Repeat("a", 1<<20), api.ErrLong},
	} {
		d, clause, err := Parse(c.text)
		if err != c.err || clause != 0 || err == api.OK && d.Name != "a" || err != api.OK && !reflect.DeepEqual(d, api.Def{}) {
			t.Errorf("F1: Parse of %d bytes (%.8q) = %v, %d, %d, want %d", len(c.text), c.text, d, clause, err, c.err)
		}
	}
}

func TestPrintExamples(t *testing.T) {
	mustPrint(t, trip(), tripText, api.OK)
	d, _, _ := Parse("a; do b @0; do b @1; ever c @2 <b")
	mustPrint(t, d, "", api.ErrArg)
	mustPrint(t, api.Def{Name: "trip"}, "trip", api.OK)
}

func TestPrint(t *testing.T) {
	for _, c := range []struct {
		d    api.Def
		want string
	}{
		{one(), "a"},
		{api.Def{Name: "ααααωωωω"}, "ααααωωωω"},
		{one(api.Step{Name: "b", Kind: 1}), "a; do b @0"},
		{one(api.Step{Name: "a", Kind: 2, Part: 3}), "a; pivot a @3"},
		{one(api.Step{Name: "b", Kind: 3, Part: 1, Keys: []string{"z", "a", "z"}, Needs: []int{0}}), "a; ever b @1 +z +a +z <b"},
		{one(api.Step{Name: "c", Kind: 3, Part: 2, Needs: []int{0, 1}}, api.Step{Name: "b", Kind: 1, Keys: []string{}, Needs: []int{}}), "a; ever c @2 <c <b; do b @0"},
		{one(api.Step{Name: "b", Kind: 1, Keys: []string{"b", "a"}, Needs: []int{2}}, api.Step{Name: "c", Kind: 1}, api.Step{Name: "d", Kind: 1}), "a; do b @0 +b +a <d; do c @0; do d @0"},
	} {
		mustPrint(t, c.d, c.want, api.OK)
		mustParse(t, c.want, c.d)
	}
}

func TestPrintRefused(t *testing.T) {
	good := func() api.Def {
		d := trip()
		d.Steps[3].Keys = []string{"k", "l"}
		d.Steps[3].Needs = []int{0, 1, 2}
		return d
	}
	mustPrint(t, good(), tripText+" +k +l <hotel <car <pay", api.OK)
	for _, n := range []string{"", "A", "Trip", "1a", "-a", "a b", " a", "a ", "a;", "a_b", "abcdefghi", "ñ", "\xff", "a\xff", "+a", "\x00"} {
		for place := range 7 {
			d := good()
			*[]*string{&d.Name, &d.Steps[0].Name, &d.Steps[1].Name, &d.Steps[3].Name, &d.Steps[0].Keys[0], &d.Steps[3].Keys[0], &d.Steps[3].Keys[1]}[place] = n
			mustPrint(t, d, "", api.ErrArg)
		}
	}
	for i := range 4 {
		for _, kind := range []int{math.MinInt, -1, 0, 4, 5, 257, 1 << 32, 1<<32 + 1, math.MaxInt} {
			d := good()
			d.Steps[i].Kind = kind
			mustPrint(t, d, "", api.ErrArg)
		}
		for _, part := range []int{math.MinInt, -1, 4, 5, 10, 256, 1 << 32, math.MaxInt} {
			d := good()
			d.Steps[i].Part = part
			mustPrint(t, d, "", api.ErrArg)
		}
		for _, needs := range [][]int{{-1}, {4}, {8}, {math.MinInt}, {math.MaxInt}, {0, 0}, {1, 0}, {3, 3}, {0, 4}, {-1, 0}, {0, 2, 1}, {0, 1, 2, 3, 3}, {0, 1, 2, 3, 4}, {2, math.MinInt}} {
			d := good()
			d.Steps[i].Needs = needs
			mustPrint(t, d, "", api.ErrArg)
		}
		for j := range i {
			d := good()
			d.Steps[i].Name = d.Steps[j].Name
			mustPrint(t, d, "", api.ErrArg)
		}
	}
	mustPrint(t, api.Def{}, "", api.ErrArg)
	mustPrint(t, one(api.Step{}), "", api.ErrArg)
}

func TestPrintSteps(t *testing.T) {
	d := one()
	want := "a"
	for i := range 8 {
		n := string(rune('b' + i))
		d.Steps = append(d.Steps, api.Step{Name: n, Kind: 1, Needs: []int{i}})
		want += "; do " + n + " @0 <" + n
		mustPrint(t, d, want, api.OK)
	}
	d.Steps[0].Needs = []int{0, 7}
	mustPrint(t, d, "a; do b @0 <b <i"+want[len("a; do b @0 <b"):], api.OK)
	d.Steps[0].Needs = []int{0, 8}
	mustPrint(t, d, "", api.ErrArg)
	d.Steps[0].Needs = nil
	d.Steps = append(d.Steps, api.Step{Name: "j", Kind: 1})
	mustPrint(t, d, "", api.ErrArg)
	mustPrint(t, api.Def{Name: "a", Steps: make([]api.Step, 100000)}, "", api.ErrArg)
}

// keysOf is a definition whose one step has so many keys of 8 bytes: its text has 10 bytes and 10 more for each.
func keysOf(count int) api.Def {
	step := api.Step{Name: "b", Kind: 1}
	for range count {
		step.Keys = append(step.Keys, "abcdefgh")
	}
	return one(step)
}

func TestPrintLength(t *testing.T) {
	d := keysOf(179)
	text := "a; do b @0" + strings.Repeat(" +abcdefgh", 179)
	if len(text) != 1800 {
		t.Fatalf("the text has %d bytes", len(text))
	}
	mustPrint(t, d, text, api.OK)
	mustParse(t, text, d)
	for place := range 179 {
		d.Steps[0].Keys[place] = "abcdefgä" // 8 runes, 9 bytes
		mustPrint(t, d, "", api.ErrLong)
		d.Steps[0].Keys[place] = "abcdefgh"
	}
	d.Name = "ab"
	mustPrint(t, d, "", api.ErrLong)
	d.Name = "a"
	d.Steps[0].Name = "bc"
	mustPrint(t, d, "", api.ErrLong)
	d.Steps[0].Name = "b"
	d.Steps[0].Needs = []int{0}
	mustPrint(t, d, "", api.ErrLong)
	d.Steps[0].Keys[0] = "abcde"
	mustPrint(t, d, "a; do b @0 +abcde"+strings.Repeat(" +abcdefgh", 178)+" <b", api.OK)
	mustPrint(t, keysOf(180), "", api.ErrLong)
	mustPrint(t, keysOf(1000000), "", api.ErrLong)
}

// Of a definition that is both wrong and too long the answer is that it is wrong.
func TestPrintWrongAheadOfLong(t *testing.T) {
	d := keysOf(180)
	d.Steps[0].Keys = append(d.Steps[0].Keys, "A")
	mustPrint(t, d, "", api.ErrArg)
	d = keysOf(180)
	d.Steps = append(d.Steps, api.Step{Name: "c", Kind: 4})
	mustPrint(t, d, "", api.ErrArg)
	d.Steps[1].Kind = 3
	mustPrint(t, d, "", api.ErrLong)
	d.Steps[1].Needs = []int{1, 1}
	mustPrint(t, d, "", api.ErrArg)
	d.Steps[1] = api.Step{Name: "b", Kind: 1}
	mustPrint(t, d, "", api.ErrArg)
}

func TestPrintChangesNothing(t *testing.T) {
	d := trip()
	d.Steps[3].Needs = []int{0, 1, 2}
	same := trip()
	same.Steps[3].Needs = []int{0, 1, 2}
	first, _ := Print(d)
	if !reflect.DeepEqual(d, same) {
		t.Errorf("R5: Print changed its definition: %v", d)
	}
	d.Steps[0].Name = "x"
	if second, _ := Print(same); second != first {
		t.Errorf("R6: Print(%v) = %q, and then %q", same, first, second)
	}
}

// Each list of an answer is written over, its spare room too: none of the others may change by it.
func TestParseAnswersAreNew(t *testing.T) {
	const text = "a; do b @0 +k +l +m <b <c <d; do c @0 +n +o +p <b <c <d <c; do d @1 +q <d; do e @1; do f @1 +r"
	want, _, _ := Parse(text)
	for i := range want.Steps {
		d, _, _ := Parse(text)
		keys, needs := d.Steps[i].Keys, d.Steps[i].Needs
		for j := range keys[:cap(keys)] {
			keys[:cap(keys)][j] = "x"
		}
		for j := range needs[:cap(needs)] {
			needs[:cap(needs)][j] = 99
		}
		d.Steps[i] = want.Steps[i]
		if !alike(d, want) {
			t.Errorf("R5: the lists of step %d share memory: %v", i, d)
		}
		if again, _, _ := Parse(text); !alike(again, want) {
			t.Errorf("R5: a later answer changed: %v", again)
		}
	}
}
