package name

import (
	"slices"
	"strings"
	"testing"
	"unicode/utf8"

	"odyssey/api"
)

const (
	smallLetters   = "abcdefghijklmnopqrstuvwxyzäöüßαβγδεζηθικλμνξοπρςστυφχψω"
	greatLetters   = "ABCDEFGHIJKLMNOPQRSTUVWXYZÄÖÜΑΒΓΔΕΖΗΘΙΚΛΜΝΞΟΠΡΣΤΥΦΧΨΩ"
	foldedLetters  = "abcdefghijklmnopqrstuvwxyzäöüαβγδεζηθικλμνξοπρστυφχψω"
	digitsAndMinus = "0123456789-"
)

var blanks = [4]string{"\t", " ", "\u00a0", "\u2003"}

// eachRune goes through all runes that a text in UTF-8 may have.
func eachRune(visit func(r rune)) {
	for r := rune(0); r <= utf8.MaxRune; r++ {
		if utf8.ValidRune(r) {
			visit(r)
		}
	}
}

// madeTexts are texts of pieces that stand at the edges of what the chapter names, put together by a fixed rule.
func madeTexts(count int) []string {
	pieces := []string{
		"a", "z", "A", "Z", "ä", "Ä", "ö", "Ü", "ß", "ẞ", "ñ", "Ñ", "α", "Α", "ω", "Ω", "\u03a2", "ς", "Σ",
		"0", "9", "-", "_", " ", "\t", "\u00a0", "\u2003", "\n", "\u2002", "\x00", "\x7f",
		"\x80", "\xa0", "\xc3", "\xce", "\xe2", "\xe2\x80", "\xed\xa0\x80", "\xf0\x9f", "\xfe", "\xff", "\ufffd", "\uffff", "\U0001f600",
	}
	texts := []string{""}
	state := uint32(1)
	for len(texts) < count {
		state = state*1664525 + 1013904223
		s := ""
		for range state >> 8 % 12 {
			state = state*1664525 + 1013904223
			s += pieces[int(state>>8)%len(pieces)]
		}
		texts = append(texts, s)
	}
	return texts
}

func TestIsExamples(t *testing.T) {
	for _, s := range []string{"a", "zug-1", "ärger", "λ2", "straße", "ααααωωωω", "abcdefgh", "a-------", "z0123456", "ö-"} {
		if !Is(s) {
			t.Errorf("P1.1: %q is a name", s)
		}
	}
	for _, s := range []string{"", "1a", "-a", "A", "abcdefghi", "ααααωωωωα", "a b", "a_b", "ñ", "aA", "a ", " a", "a\n", "ab\x00", "a\u0301"} {
		if Is(s) {
			t.Errorf("P1.1: %q is no name", s)
		}
	}
}

func TestIsLength(t *testing.T) {
	for _, letter := range []string{"a", "ß", "ω"} {
		for runes := range 20 {
			s := strings.Repeat(letter, runes)
			if want := 1 <= runes && runes <= api.MaxName; Is(s) != want {
				t.Errorf("P1.1: Is(%q) of %d runes = %v, want %v", s, runes, Is(s), want)
			}
		}
	}
	if Is(strings.Repeat("a", 1<<20)) {
		t.Errorf("P1.1: a text of 2 to the 20 letters is no name")
	}
}

func TestIsEachRune(t *testing.T) {
	eachRune(func(r rune) {
		s := string(r)
		first := strings.ContainsRune(smallLetters, r)
		if Is(s) != first {
			t.Errorf("P1.1: Is(%q) = %v, want %v", s, Is(s), first)
		}
		behind := first || strings.ContainsRune(digitsAndMinus, r)
		if Is("a"+s) != behind || Is("a"+s+"b") != behind || Is("abcdefg"+s) != behind {
			t.Errorf("P1.1: %q behind a letter: want %v", s, behind)
		}
	})
}

func TestIsNotUTF8(t *testing.T) {
	for b := 0x80; b <= 0xff; b++ {
		bad := string([]byte{byte(b)})
		for _, s := range []string{bad, "a" + bad, bad + "a", "abcdefg" + bad} {
			if Is(s) {
				t.Errorf("P1.1: %q is not UTF-8 and so no name", s)
			}
		}
	}
	for _, s := range []string{"a\xc3", "\xc1\xa1", "a\xce", "\xe0\x81\xa1", "a\ufffd", "a\xed\xa0\x80"} {
		if Is(s) {
			t.Errorf("P1.1: %q is no name", s)
		}
	}
}

func TestFoldExamples(t *testing.T) {
	for s, want := range map[string]string{
		"":              "",
		"ÄRGER Λ2 Ñ":    "ärger λ2 Ñ",
		"ẞ":             "ẞ",
		"\u03a2":        "\u03a2",
		"Σ\u03a2Ρ":      "σ\u03a2ρ",
		"already small": "already small",
		"ÄÖÜ äöü":       "äöü äöü",
		"\u212a\u212b":  "\u212a\u212b",
		"ΆΪ":            "ΆΪ",
		"@AZ[":          "@az[",
		"\xffA\xfe":     "\xffa\xfe",
		"\xc3A\x84":     "\xc3a\x84",
		"\xce\xffΑ\x91": "\xce\xffα\x91",
		"Z\xe2\x80":     "z\xe2\x80",
		"\ufffdB\ufffd": "\ufffdb\ufffd",
	} {
		if got := Fold(s); got != want {
			t.Errorf("P1.2: Fold(%q) = %q, want %q", s, got, want)
		}
	}
}

func TestFoldEachRune(t *testing.T) {
	folded := map[rune]rune{}
	small := []rune(foldedLetters)
	for i, r := range []rune(greatLetters) {
		folded[r] = small[i]
	}
	if len(folded) != 26+3+24 {
		t.Fatalf("there are %d great letters in the test", len(folded))
	}
	eachRune(func(r rune) {
		want := r
		if f, ok := folded[r]; ok {
			want = f
		}
		for _, around := range [][2]string{{"", ""}, {"x", "y"}, {"\xff", "\x80"}} {
			s := around[0] + string(r) + around[1]
			if got := Fold(s); got != around[0]+string(want)+around[1] {
				t.Errorf("P1.2: Fold(%q) = %q", s, got)
			}
		}
	})
}

func TestFoldKeepsOtherBytes(t *testing.T) {
	for b := range 256 {
		s := string([]byte{byte(b)})
		want := s
		if 'A' <= b && b <= 'Z' {
			want = string([]byte{byte(b + 32)})
		}
		if got := Fold(s); got != want {
			t.Errorf("P1.2: Fold of the byte %d = %q, want %q", b, got, want)
		}
	}
}

func TestCompareExamples(t *testing.T) {
	for _, c := range []struct {
		a, b string
		want int
	}{
		{"a", "ab", -1},
		{"z", "ä", -1},
		{"ω", "ä", 1},
		{"\xff", "\xfe", 0},
		{"", "", 0},
		{"", "a", -1},
		{"", "\x00", -1},
		{"", "\xff", -1},
		{"b", "ab", 1},
		{"ab", "b", -1},
		{"abc", "abd", -1},
		{"a-b", "ab", -1},
		{"ß", "ss", 1},
		{"\xff", "\ufffd", 0},
		{"a\xffb", "a\xc3b", 0},
		{"\xed\xa0\x80", "\xff\xff\xff", 0},
		{"\xff", "\xff\xff", -1},
		{"\xe2\x80", "\xff", 1},
		{"\xff", "\U00010000", -1},
		{"\xff", "\uffff", -1},
		{"\xff", "\ufffc", 1},
		{"\xffa", "\xfeb", -1},
	} {
		if got := Compare(c.a, c.b); got != c.want {
			t.Errorf("P1.3: Compare(%q, %q) = %d, want %d", c.a, c.b, got, c.want)
		}
		if got := Compare(c.b, c.a); got != -c.want {
			t.Errorf("P1.3: Compare(%q, %q) = %d, want %d", c.b, c.a, got, -c.want)
		}
	}
}

func TestCompareGoesByRunes(t *testing.T) {
	texts := madeTexts(500)
	for _, a := range texts {
		for _, b := range texts {
			if got, want := Compare(a, b), slices.Compare([]rune(a), []rune(b)); got != want {
				t.Fatalf("P1.3: Compare(%q, %q) = %d, want %d", a, b, got, want)
			}
		}
	}
}

func TestOwner(t *testing.T) {
	for key, want := range map[string]int{
		"":                0,
		"a":               1,
		"b":               2,
		"c":               3,
		"d":               0,
		"room":            1,
		"\xff":            1,
		"\xff\xfe":        2,
		"\xed\xa0\x80":    3,
		"\ufffd":          1,
		"ß":               3,
		"äö":              2,
		"\U0010ffff":      3,
		"\x00":            0,
		"\u03c9\u03b1":    2,
		"not a name \xc3": (110 + 111 + 116 + 32 + 97 + 32 + 110 + 97 + 109 + 101 + 32 + 65533) % 4,
	} {
		if got := Owner(key); got != want {
			t.Errorf("P1.4: Owner(%q) = %d, want %d", key, got, want)
		}
	}
	if got := Owner(strings.Repeat("\U0010ffff", 100001)); got != 3 {
		t.Errorf("P1.4: Owner of 100001 greatest runes = %d, want 3", got)
	}
}

func TestOwnerIsTheSumOfRunes(t *testing.T) {
	for _, s := range madeTexts(2000) {
		sum := 0
		for _, r := range []rune(s) {
			sum += int(r)
		}
		if got := Owner(s); got != sum%api.Parts {
			t.Errorf("P1.4: Owner(%q) = %d, want %d", s, got, sum%api.Parts)
		}
	}
}

func TestWordsExamples(t *testing.T) {
	for _, c := range []struct {
		line string
		want []string
	}{
		{"", nil},
		{" do  room\t", []string{"do", "room"}},
		{"a\u00a0b", []string{"a", "b"}},
		{"a\u2003", []string{"a"}},
		{"\u2003a", []string{"a"}},
		{"\t \u00a0\u2003", nil},
		{" ", nil},
		{"one", []string{"one"}},
		{"b a b", []string{"b", "a", "b"}},
		{"\tA\u2003\u00a0 \tÄ;x\u00a0", []string{"A", "Ä;x"}},
		{"a\nb\rc\u2002d", []string{"a\nb\rc\u2002d"}},
		{"a\xff b", []string{"a\xff", "b"}},
		{"\xa0 \xc2 \xe2\x80", []string{"\xa0", "\xc2", "\xe2\x80"}},
		{"\xc2\xc2\xa0\xa0", []string{"\xc2", "\xa0"}},
		{"\xff", []string{"\xff"}},
	} {
		if got := Words(c.line); !slices.Equal(got, c.want) {
			t.Errorf("P1.5: Words(%q) = %q, want %q", c.line, got, c.want)
		}
	}
}

func TestWordsEachRune(t *testing.T) {
	eachRune(func(r rune) {
		s := string(r)
		want := []string{"a" + s + "b"}
		if slices.Contains(blanks[:], s) {
			want = []string{"a", "b"}
		}
		if got := Words("a" + s + "b"); !slices.Equal(got, want) {
			t.Errorf("P1.5: Words(%q) = %q, want %q", "a"+s+"b", got, want)
		}
	})
}

func TestWordsAndBlanksAreTheLine(t *testing.T) {
	for _, line := range madeTexts(2000) {
		rest := behindBlanks(line)
		for _, w := range Words(line) {
			if w == "" || !strings.HasPrefix(rest, w) {
				t.Fatalf("P1.5: %q is not the next word of %q", w, line)
			}
			behind := rest[len(w):]
			rest = behindBlanks(behind)
			if behind != "" && rest == behind {
				t.Fatalf("P1.5: behind the word %q of %q stands no blank", w, line)
			}
			if hasBlank(w) {
				t.Fatalf("P1.5: a blank in the word %q of %q", w, line)
			}
		}
		if rest != "" {
			t.Fatalf("P1.5: %q is left of %q", rest, line)
		}
	}
}

func behindBlanks(s string) string {
	for _, b := range blanks {
		if rest, found := strings.CutPrefix(s, b); found {
			return behindBlanks(rest)
		}
	}
	return s
}

func hasBlank(s string) bool {
	for _, b := range blanks {
		if strings.Contains(s, b) {
			return true
		}
	}
	return false
}

func TestWordsAreNewMemory(t *testing.T) {
	line := "one two three four five"
	first := Words(line)
	second := Words(line)
	first = append(first[:2], "changed")
	first[0] = "changed"
	if want := []string{"one", "two", "three", "four", "five"}; !slices.Equal(second, want) || !slices.Equal(Words(line), want) {
		t.Errorf("R5: the words of one answer changed with those of another")
	}
}

func TestFoldTwice(t *testing.T) {
	for _, s := range madeTexts(2000) {
		once := Fold(s)
		if twice := Fold(once); twice != once {
			t.Errorf("P1.6: Fold(Fold(%q)) = %q, want %q", s, twice, once)
		}
		if len(once) != len(s) {
			t.Errorf("P1.2: Fold(%q) has %d bytes, want %d", s, len(once), len(s))
		}
	}
}

func TestFoldMakesNames(t *testing.T) {
	for _, s := range []string{"A", "Zug-1", "ÄRGER", "Λ2", "STRAßE", "ΑΒΓΔαβγδ", "AbCdEfGh", "Ω", "ςΣ", "Z-------"} {
		if !Is(Fold(s)) {
			t.Errorf("P1.6: Fold(%q) = %q is no name", s, Fold(s))
		}
	}
	for _, s := range []string{"", "1A", "-A", "ABCDEFGHI", "A B", "Ñ", "\u03a2", "ẞ", "A\xff"} {
		if Is(Fold(s)) {
			t.Errorf("P1.6: Fold(%q) = %q is a name", s, Fold(s))
		}
	}
}

func TestCompareIsAnOrder(t *testing.T) {
	texts := append(madeTexts(60), "a", "ab", "b", "\xff", "\xfe", "\ufffd", "\xffa", "\xfea")
	for _, a := range texts {
		if Compare(a, a) != 0 {
			t.Errorf("P1.6: Compare(%q, %q) is not 0", a, a)
		}
		for _, b := range texts {
			if Compare(a, b) != -Compare(b, a) {
				t.Errorf("P1.6: Compare(%q, %q) is not turned by turning", a, b)
			}
			for _, c := range texts {
				if Compare(a, b) < 0 && Compare(b, c) < 0 && Compare(a, c) >= 0 {
					t.Errorf("P1.6: %q < %q < %q, but not the first and the last", a, b, c)
				}
			}
		}
	}
}

func TestCompareTellsNamesApart(t *testing.T) {
	names := []string{"a", "aa", "ab", "a-", "a0", "b", "z", "zz", "ä", "ö", "ü", "ß", "ss", "α", "ω", "ς", "σ", "ααααωωωω", "ααααωωως", "abcdefgh", "abcdefg"}
	for i, a := range names {
		for k, b := range names {
			if (Compare(a, b) == 0) != (i == k) {
				t.Errorf("P1.6: Compare(%q, %q) = %d", a, b, Compare(a, b))
			}
		}
	}
}

func TestWordsOfWords(t *testing.T) {
	texts := madeTexts(300)
	for _, line := range texts {
		words := Words(line)
		if got := Words(strings.Join(words, " ")); !slices.Equal(got, words) {
			t.Errorf("P1.6: the words of the words of %q are %q, want %q", line, got, words)
		}
		var folded []string
		for _, w := range words {
			folded = append(folded, Fold(w))
		}
		if got := Words(Fold(line)); !slices.Equal(got, folded) {
			t.Errorf("P1.6: the words of %q, folded, are %q, want %q", line, got, folded)
		}
		for _, other := range texts {
			want := slices.Concat(words, Words(other))
			if got := Words(line + " " + other); !slices.Equal(got, want) {
				t.Fatalf("P1.6: Words of %q, a blank, %q = %q, want %q", line, other, got, want)
			}
		}
	}
}
