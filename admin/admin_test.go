package admin

import (
	"math"
	"strconv"
	"strings"
	"testing"

	"odyssey/api"
)

func mustParse(t *testing.T, what, line string, want api.Request) {
	t.Helper()
	if r, err := Parse(line); r != want || err != api.OK {
		t.Errorf("%s: Parse(%q) = %v, %d, want %v", what, line, r, err, want)
	}
}

func mustNotParse(t *testing.T, what, line string, want api.Errno) {
	t.Helper()
	if r, err := Parse(line); r != (api.Request{}) || err != want {
		t.Errorf("%s: Parse(%q) = %v, %d, want %d", what, line, r, err, want)
	}
}

// mustPrint is of P22.1, too: what was printed is read back.
func mustPrint(t *testing.T, what string, r api.Request, want string) {
	t.Helper()
	if line, err := Print(r); line != want || err != api.OK {
		t.Errorf("%s: Print(%v) = %q, %d, want %q", what, r, line, err, want)
	}
	mustParse(t, "P22.1", want, r)
}

func mustNotPrint(t *testing.T, what string, r api.Request) {
	t.Helper()
	if line, err := Print(r); line != "" || err != api.ErrArg {
		t.Errorf("%s: Print(%v) = %q, %d, want ErrArg", what, r, line, err)
	}
}

func mustShow(t *testing.T, r api.Reply, want string) {
	t.Helper()
	if s := Show(r); s != want {
		t.Errorf("A3: Show(%v) = %q, want %q", r, s, want)
	}
}

func register(text string) api.Request {
	return api.Request{Kind: api.RequestRegister, Text: text}
}

func start(key, name string, version int) api.Request {
	return api.Request{Kind: api.RequestStart, Key: key, Name: name, Version: version}
}

func cancel(id int) api.Request { return api.Request{Kind: api.RequestCancel, Id: id} }

func query(id int) api.Request { return api.Request{Kind: api.RequestQuery, Id: id} }

var list = api.Request{Kind: api.RequestList}

func TestExamples(t *testing.T) {
	mustParse(t, "A1", "start c1 trip", start("c1", "trip", 0))
	mustParse(t, "A1", "start c1 trip 2", start("c1", "trip", 2))
	mustParse(t, "A1", "  start\tc1 \u00a0trip\u2003 2 ", start("c1", "trip", 2))
	mustParse(t, "A1", "register  trip;  do a @0 ", register("trip;  do a @0"))
	mustParse(t, "A1", "register", register(""))
	for _, line := range []string{"query 07", "query -1", "Query 1", "query", "list 1", "start C t", ""} {
		mustNotParse(t, "A1", line, api.ErrAdminLine)
	}
	mustPrint(t, "A2", start("c1", "trip", 2), "start c1 trip 2")
	mustNotPrint(t, "A2", api.Request{Kind: api.RequestStart, Key: "c1", Name: "trip", Version: 2, Id: 1})
	mustNotPrint(t, "A2", register(" a"))
	mustShow(t, api.Reply{Kind: api.RequestCancel, Code: 212}, "cancel error 212")
	mustShow(t, api.Reply{Kind: api.RequestStart, Id: 1, Version: 2}, "start id 1 version 2")
	mustShow(t, api.Reply{Kind: api.RequestList, Rows: []api.Row{{Id: 1, Phase: api.Committed}, {Id: 2, Phase: api.Forward}}}, "list 1:committed 2:forward")
	mustShow(t, api.Reply{Kind: api.RequestList}, "list")
	mustShow(t, api.Reply{Kind: api.RequestQuery, Id: 3, Inst: api.Inst{Key: "c", Name: "t", Version: 1, Phase: api.Backward, Cause: api.CauseBusy, Steps: []int{2, 4}}}, "query id 3 key c name t version 1 backward cause busy steps done busy freed 0 0 0 0")
}

func TestParseCommands(t *testing.T) {
	mustParse(t, "A1", "list", list)
	mustParse(t, "A1", "cancel 7", cancel(7))
	mustParse(t, "A1", "query 7", query(7))
	// A command stands just as it is, and alone.
	for _, command := range []string{"register", "start", "cancel", "query", "list"} {
		tail := map[string]string{"start": " c t", "cancel": " 1", "query": " 1"}[command]
		for _, wrong := range []string{strings.ToUpper(command), strings.ToUpper(command[:1]) + command[1:], command + "s", command[1:], command[:len(command)-1], "x" + command, command + "\n", "\n" + command, command + "\u00ad", command + "\xff", command + ",", "x " + command, command[:1] + " " + command[1:], "1"} {
			mustNotParse(t, "A1", wrong+tail, api.ErrAdminLine)
		}
	}
	for _, line := range []string{" ", "\t\u00a0\u2003 ", "\x00", "\xa0", "reply 0", "reply", "version 1"} {
		mustNotParse(t, "A1", line, api.ErrAdminLine)
	}
}

func TestParseWords(t *testing.T) {
	for _, line := range []string{
		"start", "start c", "start c t 1 2", "start c t 1 1", "start c t x", "start c t -", "start c t 01", "start c t -1", "start c t 1 x",
		"cancel", "cancel 1 2", "cancel x", "cancel 1 x", "cancel c t", "query 1 1", "query x 1", "list list", "list x", "list 0",
	} {
		mustNotParse(t, "A1", line, api.ErrAdminLine)
	}
	for _, word := range []string{"C", "1", "-a", "abcdefghi", "a_b", "ñ", "\xff", "a\xff", "a.", "Ä"} {
		mustNotParse(t, "A1", "start "+word+" t", api.ErrAdminLine)
		mustNotParse(t, "A1", "start c "+word, api.ErrAdminLine)
		mustNotParse(t, "A1", "start c "+word+" 1", api.ErrAdminLine)
	}
	for _, word := range []string{"a", "ä", "ß-9", "abcdefgh", "ωωωωωωωω", "register", "list"} {
		mustParse(t, "A1", "start "+word+" t", start(word, "t", 0))
		mustParse(t, "A1", "start c "+word+" 5", start("c", word, 5))
	}
}

func TestParseNumbers(t *testing.T) {
	for _, n := range []int{0, 1, 9, 10, 60, 61, 100, 12345678, 99999999, 100000000, 123456789, 999999999} {
		s := strconv.Itoa(n)
		mustParse(t, "A1", "cancel "+s, cancel(n))
		mustParse(t, "A1", "query "+s, query(n))
		mustParse(t, "A1", "start c t "+s, start("c", "t", n))
	}
	for _, word := range []string{"00", "01", "07", "000000001", "1000000000", "0999999999", "9999999999", "18446744073709551617", strings.Repeat("1", 1900), "-0", "-1", "+1", "1.", "1e1", "0x1", "1_0", "٣", "１", "1\xff", "a", "1\n"} {
		mustNotParse(t, "A1", "cancel "+word, api.ErrAdminLine)
		mustNotParse(t, "A1", "query "+word, api.ErrAdminLine)
		mustNotParse(t, "A1", "start c t "+word, api.ErrAdminLine)
	}
}

func TestParseText(t *testing.T) {
	for _, text := range []string{"", "x", "x y", "x  y", "x\ty", "trip;  do a @0", "A\xa0", "\xa0A", "\xc2", "\xe2\x80", "\xff \xff", "ä\u2003\u00a0 ä", "register", "\n", "\x00", "x\u2002", "\u200b", "a\xc2 b", ";", strings.Repeat("x", 1900)} {
		for _, blank := range []string{" ", "\t", "\u00a0", "\u2003", "  ", "\t\u2003 \u00a0"} {
			mustParse(t, "A1", "register"+blank+text, register(text))
			mustParse(t, "A1", blank+"register"+blank+text+blank, register(text))
			mustParse(t, "A1", "register"+blank+text+blank, register(text))
		}
	}
}

func TestParseLength(t *testing.T) {
	blanks := strings.Repeat(" ", 2000)
	mustParse(t, "A1", blanks[:1996]+"list", list)
	mustParse(t, "A1", "list"+blanks[:1996], list)
	mustParse(t, "A1", "register "+strings.Repeat("ä", 995), register(strings.Repeat("ä", 995)))
	mustParse(t, "A1", "register "+strings.Repeat("ä", 995)+"x", register(strings.Repeat("ä", 995)+"x"))
	mustNotParse(t, "A1", blanks, api.ErrAdminLine)
	// That it is too long comes ahead of what it is.
	mustNotParse(t, "A1", blanks[:1997]+"list", api.ErrLong)
	mustNotParse(t, "A1", blanks+" ", api.ErrLong)
	mustNotParse(t, "A1", "register "+strings.Repeat("ä", 996), api.ErrLong)
	mustNotParse(t, "A1", strings.Repeat("x", 1<<20), api.ErrLong)
}

func TestPrint(t *testing.T) {
	mustPrint(t, "A2", list, "list")
	mustPrint(t, "A2", register(""), "register")
	mustPrint(t, "A2", register("a;  do b @0"), "register a;  do b @0")
	mustPrint(t, "A2", start("c1", "trip", 0), "start c1 trip")
	mustPrint(t, "A2", start("ωωωωωωωω", "ßßßßßßßß", 999999999), "start ωωωωωωωω ßßßßßßßß 999999999")
	for _, n := range []int{0, 1, 10, 999999999} {
		mustPrint(t, "A2", cancel(n), "cancel "+strconv.Itoa(n))
		mustPrint(t, "A2", query(n), "query "+strconv.Itoa(n))
	}
	for _, text := range []string{"x", "x\u2003\t y", "\xa0", "\xc2", "a\xe2\x80", "\n", "register x", "1", strings.Repeat("x", 1991)} {
		mustPrint(t, "A2", register(text), "register "+text)
	}
}

func TestPrintRefused(t *testing.T) {
	for _, n := range []int{math.MinInt, -1 << 32, -1, 1000000000, 1 << 32, math.MaxInt} {
		mustNotPrint(t, "A2", cancel(n))
		mustNotPrint(t, "A2", query(n))
		mustNotPrint(t, "A2", start("c", "t", n))
	}
	for _, word := range []string{"", " ", "C", "1", "a b", " a", "a ", "abcdefghi", "\xff", "a\n", "ñ"} {
		mustNotPrint(t, "A2", start(word, "t", 0))
		mustNotPrint(t, "A2", start("c", word, 0))
		mustNotPrint(t, "A2", start(word, word, 1))
	}
	// Words that would be read as another field's.
	mustNotPrint(t, "A2", start("c", "t 2", 0))
	mustNotPrint(t, "A2", start("c t", "", 0))
	mustNotPrint(t, "A2", start("", "c t", 0))
	mustNotPrint(t, "A2", start("c", "t 2", 2))
	for _, text := range []string{" ", "\t", " a", "a ", "a\u00a0", "\u2003a", "\u2003", "a\t\t", strings.Repeat("x", 1992), strings.Repeat("x", 1<<20)} {
		mustNotPrint(t, "A2", register(text))
	}
	for _, kind := range []int{math.MinInt, -1, 0, 6, 7, 1 << 32, 1<<32 + 5, math.MaxInt} {
		mustNotPrint(t, "A2", api.Request{Kind: kind})
		mustNotPrint(t, "A2", api.Request{Kind: kind, Key: "c", Name: "t", Id: 1, Version: 1, Text: "x"})
	}
}

// TestPrintOfFieldsThatAreNotNamed: each field that the kind does not name must be zero.
func TestPrintOfFieldsThatAreNotNamed(t *testing.T) {
	more := map[string]func(r *api.Request){
		"Key":     func(r *api.Request) { r.Key = "c" },
		"Name":    func(r *api.Request) { r.Name = "t" },
		"Version": func(r *api.Request) { r.Version = 1 },
		"Id":      func(r *api.Request) { r.Id = 1 },
		"Text":    func(r *api.Request) { r.Text = "x" },
	}
	for _, c := range []struct {
		r     api.Request
		named string
	}{{register("x"), "Text"}, {start("c", "t", 1), "Key Name Version"}, {cancel(1), "Id"}, {query(1), "Id"}, {list, ""}} {
		for field, set := range more {
			r := c.r
			set(&r)
			if strings.Contains(c.named, field) {
				if _, err := Print(r); err != api.OK {
					t.Errorf("A2: Print(%v) = %d", r, err)
				}
				continue
			}
			mustNotPrint(t, "A2", r)
		}
	}
}

func TestShowHeads(t *testing.T) {
	for kind, head := range map[int]string{1: "register", 2: "start", 3: "cancel", 4: "query", 5: "list", 0: "reply 0", 6: "reply 6", -1: "reply -1", 1 << 32: "reply 4294967296", math.MaxInt: "reply 9223372036854775807", math.MinInt: "reply -9223372036854775808"} {
		// With an error that is all, whatever else there is.
		for code, word := range map[api.Errno]string{1: "1", 100: "100", 214: "214", 999: "999", -5: "-5", math.MaxInt: "9223372036854775807"} {
			mustShow(t, api.Reply{Kind: kind, Code: code}, head+" error "+word)
			mustShow(t, api.Reply{Kind: kind, Code: code, Id: 3, Version: 4, Inst: api.Inst{Key: "k", Steps: []int{1}}, Rows: []api.Row{{Id: 1}}}, head+" error "+word)
		}
		if kind < 1 || kind > 5 {
			mustShow(t, api.Reply{Kind: kind}, head)
			mustShow(t, api.Reply{Kind: kind, Id: 3, Version: 4, Inst: api.Inst{Key: "k", Steps: []int{1}}, Rows: []api.Row{{Id: 1}}}, head)
		}
	}
}

// TestShowFields: each kind tells what it names, and nothing of the rest.
func TestShowFields(t *testing.T) {
	for _, n := range []int{math.MinInt, -1, 0, 1, 60, math.MaxInt} {
		s := strconv.Itoa(n)
		for _, other := range []int{0, 7} {
			o := strconv.Itoa(other)
			rest := api.Inst{Id: 9, Key: "k", Phase: other, Steps: []int{other}}
			rows := []api.Row{{Id: other, Phase: 1}}
			mustShow(t, api.Reply{Kind: 1, Version: n, Id: other, Inst: rest, Rows: rows}, "register version "+s)
			mustShow(t, api.Reply{Kind: 2, Id: n, Version: other, Inst: rest, Rows: rows}, "start id "+s+" version "+o)
			mustShow(t, api.Reply{Kind: 2, Id: other, Version: n, Inst: rest, Rows: rows}, "start id "+o+" version "+s)
			mustShow(t, api.Reply{Kind: 3, Id: n, Version: other, Inst: rest, Rows: rows}, "cancel id "+s)
			mustShow(t, api.Reply{Kind: 5, Id: other, Version: other, Inst: rest, Rows: []api.Row{{Id: n, Phase: 1}}}, "list "+s+":forward")
			mustShow(t, api.Reply{Kind: 4, Id: n, Version: 5, Rows: rows, Inst: api.Inst{Id: 9, Key: "k", Name: "n", Version: other, Phase: 1, Steps: []int{0}, Freed: [4]int{n, 0, other, 1}}}, "query id "+s+" key k name n version "+o+" forward cause none steps idle freed "+s+" 0 "+o+" 1")
		}
	}
}

func TestShowWords(t *testing.T) {
	phases := map[int]string{1: "forward", 2: "sealed", 3: "completing", 4: "committed", 5: "backward", 6: "aborted"}
	causes := map[int]string{0: "none", 1: "cancel", 2: "late", 3: "refused", 4: "busy"}
	states := map[int]string{0: "idle", 1: "sent", 2: "done", 3: "no", 4: "busy", 5: "undone"}
	word := func(words map[int]string, n int) string {
		if w, is := words[n]; is {
			return w
		}
		return "?" + strconv.Itoa(n)
	}
	for _, n := range []int{math.MinInt, -1 << 32, -2, -1, 0, 1, 2, 3, 4, 5, 6, 7, 8, 100, 1 << 32, 1<<32 + 1, math.MaxInt} {
		mustShow(t, api.Reply{Kind: 5, Rows: []api.Row{{Id: 3, Phase: n}, {Id: 4, Phase: 6}}}, "list 3:"+word(phases, n)+" 4:aborted")
		mustShow(t, api.Reply{Kind: 4, Id: 1, Inst: api.Inst{Key: "k", Name: "n", Version: 2, Phase: n, Cause: 2, Steps: []int{5, 0}}}, "query id 1 key k name n version 2 "+word(phases, n)+" cause late steps undone idle freed 0 0 0 0")
		mustShow(t, api.Reply{Kind: 4, Id: 1, Inst: api.Inst{Key: "k", Name: "n", Version: 2, Phase: 1, Cause: n, Steps: []int{5, 0}}}, "query id 1 key k name n version 2 forward cause "+word(causes, n)+" steps undone idle freed 0 0 0 0")
		mustShow(t, api.Reply{Kind: 4, Id: 1, Inst: api.Inst{Key: "k", Name: "n", Version: 2, Phase: 1, Cause: 1, Steps: []int{n, 1, n}}}, "query id 1 key k name n version 2 forward cause cancel steps "+word(states, n)+" sent "+word(states, n)+" freed 0 0 0 0")
	}
}

// TestShowTexts: texts stand as they are, an empty one between two blanks; a brief has no steps.
func TestShowTexts(t *testing.T) {
	mustShow(t, api.Reply{Kind: 4}, "query id 0 key  name  version 0 ?0 cause none steps freed 0 0 0 0")
	mustShow(t, api.Reply{Kind: 4, Inst: api.Inst{Key: " a\t b ", Name: "\xff\n", Phase: 4, Steps: []int{}}}, "query id 0 key  a\t b  name \xff\n version 0 committed cause none steps freed 0 0 0 0")
	mustShow(t, api.Reply{Kind: 5, Rows: []api.Row{}}, "list")
	long := make([]int, 3000)
	if s := Show(api.Reply{Kind: 4, Inst: api.Inst{Steps: long}}); strings.Count(s, " idle") != 3000 {
		t.Errorf("A3: Show of 3000 steps tells %d", strings.Count(s, " idle"))
	}
	rows := make([]api.Row, 3000)
	if s := Show(api.Reply{Kind: 5, Rows: rows}); s != "list"+strings.Repeat(" 0:?0", 3000) {
		t.Errorf("A3: Show of 3000 rows has %d bytes", len(s))
	}
}
