package codec

import (
	"slices"
	"strings"
	"testing"

	"odyssey/api"
)

func TestBrokenForms(t *testing.T) {
	for what, s := range map[string]string{
		"nothing":                          "",
		"a mark alone":                     "L",
		"an event's mark alone":            "E",
		"a note's mark alone":              "N",
		"another mark":                     "X\x03\x01\x05",
		"a small mark":                     "l\x03\x01\x05",
		"no mark":                          "\x03\x01\x05",
		"a mark twice":                     "LL\x03\x01\x05",
		"kind 0":                           "L\x00\x01\x05\x01",
		"kind 10 of a letter":              "L\x0a\x01\x05\x01",
		"kind 7 of an event":               "E\x07\x05\x01",
		"kind 0 of an event":               "E\x00\x05\x01",
		"kind 10 of a note":                "N\x0a\x05",
		"kind 0 of a note":                 "N\x00\x05",
		"a great kind":                     "N\x80\x80\x80\x80\x80\x80\x80\x02\x05",
		"part 4":                           "L\x02\x04\x05\x01",
		"id 0":                             "L\x02\x02\x00\x01",
		"id 61":                            "E\x06\x3d",
		"step 8":                           "L\x02\x02\x05\x08",
		"a free with a step":               "L\x03\x01\x05\x00",
		"an undo without its step":         "L\x02\x02\x05",
		"an undo with a sort":              "L\x02\x02\x05\x01\x00",
		"sort 0":                           "L\x01\x01\x05\x00\x00\x00",
		"sort 4":                           "L\x01\x01\x05\x00\x04\x00",
		"three keys":                       "E\x01\x05\x00\x03\x01a\x01b\x01c",
		"keys that fall":                   "E\x01\x05\x00\x02\x01b\x01a",
		"a key twice":                      "E\x01\x05\x00\x02\x01a\x01a",
		"a key that is no name":            "E\x01\x05\x00\x01\x01A",
		"an empty key":                     "E\x01\x05\x00\x01\x00",
		"a key too few":                    "E\x01\x05\x00\x02\x01a",
		"a key too many":                   "E\x01\x05\x00\x01\x01a\x01b",
		"more keys than pack reads":        "E\x01\x05\x00\xa1\x1f" + strings.Repeat("\x00", 4001),
		"as many as pack reads":            "E\x01\x05\x00\xa0\x1f" + strings.Repeat("\x00", 4000),
		"an undo with keys":                "E\x05\x05\x00\x00",
		"a kind in two bytes":              "L\x82\x00\x02\x05\x01",
		"a part in two bytes":              "L\x02\x82\x00\x05\x01",
		"an id in two bytes":               "L\x02\x02\x85\x00\x01",
		"a step in two bytes":              "L\x02\x02\x05\x81\x00",
		"a sort in two bytes":              "L\x01\x01\x05\x00\x81\x00\x00",
		"a count of keys in two bytes":     "E\x01\x05\x00\x80\x00",
		"a key's length in two bytes":      "E\x01\x05\x00\x01\x81\x00a",
		"an event's kind in two bytes":     "E\x86\x00\x05",
		"a note's kind in two bytes":       "N\x83\x00\x05",
		"a text's length in two bytes":     "N\x01\x81\x00a",
		"a version in two bytes":           "N\x02\x05\x02c1\x04trip\x81\x00",
		"a number of nine bytes":           "N\x03\x85\x80\x80\x80\x80\x80\x80\x80\x00",
		"an id that is 5 but for its tops": "N\x03\x85\x80\x80\x80\x80\x80\x80\x02",
		"a number that does not end":       "N\x03\x85",
		"no text":                          "N\x01\x00",
		"a text that is cut":               "N\x01\x02a",
		"a text with a byte more":          "N\x01\x01ab",
		"a text of 1801 bytes":             "N\x01\x89\x0e" + longText(1801),
		"a text of 2000 bytes":             "N\x01\xd0\x0f" + longText(2000),
		"a text of 2001 bytes":             "N\x01\xd1\x0f" + longText(2001),
		"a key of a start that is none":    "N\x02\x05\x02C1\x04trip\x01",
		"a name of a start that is none":   "N\x02\x05\x02c1\x041rip\x01",
		"an empty name":                    "N\x02\x05\x02c1\x00\x01",
		"version 0":                        "N\x02\x05\x02c1\x04trip\x00",
		"version 17":                       "N\x02\x05\x02c1\x04trip\x11",
		"no version":                       "N\x02\x05\x02c1\x04trip",
		"a mark of state 1":                "N\x06\x05\x01\x01",
		"a mark of state 6":                "N\x06\x05\x01\x06",
		"a mark of step 8":                 "N\x06\x05\x08\x02",
		"a freed of part 4":                "N\x08\x05\x04",
		"a commit with a cause":            "N\x09\x05\x04\x01",
		"a commit without one":             "N\x09\x05\x04",
		"an abort without a cause":         "N\x09\x05\x06\x00",
		"an abort of cause 5":              "N\x09\x05\x06\x05",
		"a brief of phase 5":               "N\x09\x05\x05\x01",
		"two forms":                        "N\x03\x05N\x03\x05",
		"a letter and an event":            "L\x03\x01\x05E\x06\x05",
		"a great text":                     "N\x01" + longText(1<<20),
	} {
		t.Run(what, func(t *testing.T) { mustRead(t, s, nil) })
	}
}

// mustBeSound: a text that is read is the form of what it is read as, and that may be; no text is read as two.
func mustBeSound(t *testing.T, s string) {
	t.Helper()
	var got []any
	l, err := ReadLetter(s)
	if err == api.OK {
		got = append(got, l)
	}
	e, err := ReadEvent(s)
	if err == api.OK {
		got = append(got, e)
	}
	n, err := ReadNote(s)
	if err == api.OK {
		got = append(got, n)
	}
	if len(got) == 0 {
		mustRead(t, s, nil)
		return
	}
	if len(got) > 1 {
		t.Fatalf("P7.4: %.60q is read as %s", s, short(got))
	}
	mustRead(t, s, got[0])
	if want, may := slowForm(got[0]); !may || want != s {
		t.Fatalf("P7.2: %.60q is read as %s, whose form it is not", s, short(got[0]))
	}
	if again, err := written(got[0]); again != s || err != api.OK {
		t.Fatalf("P7.4: %.60q is read as %s, which is written as %.60q, %d", s, short(got[0]), again, err)
	}
}

func TestAByteMoreOrLess(t *testing.T) {
	for _, c := range forms {
		for size := range len(c.form) {
			mustRead(t, c.form[:size], nil)
		}
		for b := range 256 {
			mustRead(t, c.form+string([]byte{byte(b)}), nil)
		}
		for _, other := range forms {
			if What(c.form+other.form) != 0 {
				t.Errorf("P7.4: %.60q and %.60q are read as one", c.form, other.form)
			}
		}
		if t.Failed() {
			return
		}
	}
}

func TestAByteChanged(t *testing.T) {
	for _, c := range forms {
		if len(c.form) > 100 {
			continue
		}
		for at := range len(c.form) {
			for b := range 256 {
				mustBeSound(t, c.form[:at]+string([]byte{byte(b)})+c.form[at+1:])
				mustBeSound(t, c.form[:at]+string([]byte{byte(b)})+c.form[at:])
			}
			mustBeSound(t, c.form[:at]+c.form[at+1:])
		}
		if t.Failed() {
			return
		}
	}
}

// shortForms are the forms of all letters, events and notes that may be and whose forms have at most five bytes.
func shortForms() map[string]int {
	all := map[string]int{}
	put := func(v any) {
		s, may := slowForm(v)
		if may && len(s) <= 5 {
			all[s] = whatOf(v)
		}
	}
	for kind := range 12 {
		for inst := range 63 {
			for step := range 10 {
				put(api.Event{Kind: kind, Inst: inst, Step: step})
				put(api.Note{Kind: kind, Inst: inst, Step: step})
				put(api.Note{Kind: kind, Inst: inst, Part: step})
				for other := range 10 {
					put(api.Letter{Kind: kind, Part: other, Inst: inst, Step: step})
					put(api.Note{Kind: kind, Inst: inst, Step: step, State: other})
					put(api.Note{Kind: kind, Inst: inst, State: step, Cause: other})
				}
			}
		}
	}
	for a := range 256 {
		put(api.Note{Kind: api.NoteDef, Text: string([]byte{byte(a)})})
		for b := range 256 {
			put(api.Note{Kind: api.NoteDef, Text: string([]byte{byte(a), byte(b)})})
		}
	}
	return all
}

func TestEveryShortText(t *testing.T) {
	all := shortForms()
	bytes := "\x00\x01\x02\x03\x04\x05\x06\x07\x08\x09\x0a\x3b\x3c\x3d\x7f\x80\x85\xffELNa"
	found := 0
	var walk func(s string)
	walk = func(s string) {
		if got := What(s); got != all[s] {
			t.Fatalf("P7.3: What(%q) = %d, want %d", s, got, all[s])
		}
		if all[s] > 0 {
			found++
		}
		for i := 0; i < len(bytes) && len(s) < 5; i++ {
			walk(s + bytes[i:i+1])
		}
	}
	for _, mark := range []string{"L", "E", "N", "M", "\x00", "\xff"} {
		walk(mark)
	}
	if found < 1000 {
		t.Errorf("%d forms among the texts: too few to tell anything", found)
	}
}

func TestTextsWithoutSense(t *testing.T) {
	state := uint64(11)
	below := func(n int) int {
		state = state*6364136223846793005 + 1442695040888963407
		return int(state >> 33 % uint64(n))
	}
	for range 200000 {
		s := []byte{"LEN"[below(3)], byte(below(11))}
		for range below(20) {
			s = append(s, byte(below([]int{3, 9, 62, 256}[below(4)])))
		}
		mustBeSound(t, string(s))
	}
}

func TestKeysAreNotKeptAndNotShared(t *testing.T) {
	backing := []string{"a", "b", "c"}
	l := api.Letter{Kind: api.LetterDo, Inst: 1, Sort: 1, Keys: backing[:2]}
	s, _ := Letter(l)
	e, _ := Event(api.Event{Kind: api.EventDo, Inst: 1, Keys: backing[:2]})
	if !slices.Equal(backing, []string{"a", "b", "c"}) {
		t.Errorf("R5: what was handed in has changed: %q", backing)
	}
	backing[0] = "changed"
	one, _ := ReadLetter(s)
	two, _ := ReadLetter(s)
	other, _ := ReadEvent(e)
	one.Keys[0] = "x"
	one.Keys = append(one.Keys, "y")
	two.Keys = append(two.Keys, "z")
	if !slices.Equal(two.Keys, []string{"a", "b", "z"}) || one.Keys[2] != "y" || !slices.Equal(other.Keys, []string{"a", "b"}) {
		t.Errorf("R5: answers share memory: %q, %q, %q", one.Keys, two.Keys, other.Keys)
	}
}
