package admin

import (
	"regexp"
	"strconv"
	"strings"
	"testing"

	"odyssey/api"
)

// made is a row of numbers that follow a fixed rule.
type made uint64

func (m *made) below(n int) int {
	*m = *m*6364136223846793005 + 1442695040888963407
	return int(uint64(*m) >> 33 % uint64(n))
}

func (m *made) one(of []string) string { return of[m.below(len(of))] }

// What chapter 22 says of a line, as patterns.
const (
	blankForm  = `[\t \x{a0}\x{2003}]`
	otherForm  = `[^\t \x{a0}\x{2003}]`
	nameForm   = `([a-zäöüß\x{3b1}-\x{3c9}][a-zäöüß\x{3b1}-\x{3c9}0-9-]{0,7})`
	numberForm = `(0|[1-9][0-9]{0,8})`
)

var (
	registerLine = regexp.MustCompile(`(?s)^` + blankForm + `*register(?:` + blankForm + `+(` + otherForm + `(?:.*` + otherForm + `)?))?` + blankForm + `*$`)
	startLine    = regexp.MustCompile(`^` + blankForm + `*start` + blankForm + `+` + nameForm + blankForm + `+` + nameForm + `(?:` + blankForm + `+` + numberForm + `)?` + blankForm + `*$`)
	idLine       = regexp.MustCompile(`^` + blankForm + `*(cancel|query)` + blankForm + `+` + numberForm + blankForm + `*$`)
	listLine     = regexp.MustCompile(`^` + blankForm + `*list` + blankForm + `*$`)
)

func number9(s string) int {
	n, _ := strconv.Atoi(s)
	return n
}

// slowParse reads a line by the patterns.
func slowParse(line string) (api.Request, api.Errno) {
	if len(line) > 2000 {
		return api.Request{}, api.ErrLong
	}
	if found := registerLine.FindStringSubmatch(line); found != nil {
		return api.Request{Kind: 1, Text: found[1]}, api.OK
	}
	if found := startLine.FindStringSubmatch(line); found != nil {
		return api.Request{Kind: 2, Key: found[1], Name: found[2], Version: number9(found[3])}, api.OK
	}
	if found := idLine.FindStringSubmatch(line); found != nil {
		return api.Request{Kind: map[string]int{"cancel": 3, "query": 4}[found[1]], Id: number9(found[2])}, api.OK
	}
	if listLine.MatchString(line) {
		return api.Request{Kind: 5}, api.OK
	}
	return api.Request{}, api.ErrAdminLine
}

// hold holds Parse of a line against the patterns, and P22.2: what it tells is printed, and read back.
func hold(t *testing.T, line string) api.Request {
	t.Helper()
	r, err := Parse(line)
	if want, wantErr := slowParse(line); r != want || err != wantErr {
		t.Fatalf("A1: Parse(%q) = %v, %d, want %v, %d", line, r, err, want, wantErr)
	}
	if err != api.OK {
		return r
	}
	printed, err := Print(r)
	if err != api.OK {
		t.Fatalf("P22.2: Print(%v) = %d, where Parse(%q) tells it", r, err, line)
	}
	if again, err := Parse(printed); again != r || err != api.OK || len(printed) > len(line) {
		t.Fatalf("P22.2: Parse(%q) = %v, %d, want %v", printed, again, err, r)
	}
	return r
}

var (
	pieces = []string{"register", "start", "cancel", "query", "list", " ", "\t", "\u00a0", "\u2003", "c", "ä1", "7", "0", "07", "-", "\xa0", "\xc2", "A", ";"}
	blanks = []string{" ", "\t", "\u00a0", "\u2003", "  ", "\u2003\t"}
)

// TestEveryShortLine: all rows of up to four out of nineteen pieces.
func TestEveryShortLine(t *testing.T) {
	rows := 1
	for range 4 {
		rows *= len(pieces) + 1
	}
	taken := 0
	for row := range rows {
		line := ""
		for left := row; left > 0; left /= len(pieces) + 1 {
			if at := left % (len(pieces) + 1); at > 0 {
				line += pieces[at-1]
			}
		}
		if hold(t, line) != (api.Request{}) {
			taken++
		}
	}
	if taken < 500 {
		t.Errorf("only %d lines are requests'", taken)
	}
}

// line is most often a request's, with one blank between words, from the first word on to the last one's end.
func (m *made) line() (string, bool) {
	names := []string{"c", "trip", "ä", "ωωωωωωωω", "a-9"}
	numbers := []string{"0", "1", "16", "999999999"}
	switch m.below(5) {
	case 0:
		return "register " + m.one([]string{"a; do b @0", "x\u00a0 \u2003y", "\xff\xa0 \xc2", "register  list", "ä;\t;"}), true
	case 1:
		return "start " + m.one(names) + " " + m.one(names), false
	case 2:
		return "start " + m.one(names) + " " + m.one(names) + " " + m.one(numbers), false
	case 3:
		return m.one([]string{"cancel ", "query "}) + m.one(numbers), false
	}
	return "list", false
}

// blanked is the line with other blanks: between all words, or, where the rest is a text, behind the command alone.
func (m *made) blanked(line string, isText bool) string {
	words := strings.Split(line, " ")
	if isText {
		words = strings.SplitN(line, " ", 2)
	}
	out := strings.Repeat(m.one(blanks), m.below(2))
	for i, word := range words {
		if i > 0 {
			out += m.one(blanks)
		}
		out += word
	}
	return out + strings.Repeat(m.one(blanks), m.below(2))
}

// TestLongLines: P22.3, other blanks; and one byte or one rune of a line changed to another.
func TestLongLines(t *testing.T) {
	m := made(22)
	for range 20000 {
		line, isText := m.line()
		r := hold(t, line)
		if other := m.blanked(line, isText); hold(t, other) != r {
			t.Fatalf("P22.3: Parse(%q) is not what Parse(%q) is", other, line)
		}
		at := m.below(len(line))
		hold(t, line[:at]+string([]byte{byte(m.below(256))})+line[at+1:])
		hold(t, line[:at]+m.one(pieces)+line[at:])
		hold(t, line[:at])
		hold(t, line[at:])
	}
}

// TestEveryByte: each byte in each place of a line of each kind.
func TestEveryByte(t *testing.T) {
	for _, line := range []string{"register a b", "start c t 12", "cancel 10", "query 9", "list", " list "} {
		for at := range len(line) + 1 {
			for c := range 256 {
				more := line[:at] + string([]byte{byte(c)}) + line[at:]
				hold(t, more)
				if at < len(line) {
					hold(t, line[:at]+string([]byte{byte(c)})+line[at+1:])
				}
			}
		}
	}
}

// TestEveryRune: which runes are blanks, ahead of, between and behind words.
func TestEveryRune(t *testing.T) {
	for r := rune(0); r <= 0xffff; r++ {
		s := string(r)
		hold(t, "cancel"+s+"1")
		hold(t, s+"list"+s)
		hold(t, "register "+s+"a"+s)
	}
}

// TestPrintTellsWhatParseTells: A2, fields of every kind together: Print answers just where a line is found that tells them.
func TestPrintTellsWhatParseTells(t *testing.T) {
	texts := []string{"", "c", "C", "c d", " ", "7"}
	numbers := []int{-1, 0, 7, 999999999, 1000000000}
	for kind := -1; kind <= 6; kind++ {
		for _, key := range texts {
			for _, name := range texts {
				for _, version := range numbers {
					for _, id := range numbers {
						for _, text := range texts {
							holdPrint(t, api.Request{Kind: kind, Key: key, Name: name, Version: version, Id: id, Text: text})
						}
					}
				}
			}
		}
	}
}

// slowPrint tries all lines that the request could have.
func slowPrint(r api.Request) (string, api.Errno) {
	id, version := strconv.Itoa(r.Id), strconv.Itoa(r.Version)
	for _, line := range []string{"list", "register", "register " + r.Text, "cancel " + id, "query " + id, "start " + r.Key + " " + r.Name, "start " + r.Key + " " + r.Name + " " + version} {
		if told, err := slowParse(line); told == r && err == api.OK {
			return line, api.OK
		}
	}
	return "", api.ErrArg
}

func holdPrint(t *testing.T, r api.Request) {
	t.Helper()
	line, err := Print(r)
	if want, wantErr := slowPrint(r); line != want || err != wantErr {
		t.Fatalf("A2: Print(%v) = %q, %d, want %q, %d", r, line, err, want, wantErr)
	}
}
