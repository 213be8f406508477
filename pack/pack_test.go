package pack

import (
	"math"
	"slices"
	"strings"
	"testing"

	"odyssey/api"
)

// made is a row of numbers that follow a fixed rule.
type made uint64

func (m *made) below(n int) int {
	*m = *m*6364136223846793005 + 1442695040888963407
	return int(uint64(*m) >> 33 % uint64(n))
}

// edgeNums are numbers that may be, at and beside each place where a byte more is needed.
func edgeNums() []int {
	nums := []int{0, 1, 2, 126, 300, api.MaxPiece, api.MaxPiece + 1, api.MaxList, api.MaxList + 1, api.MaxNum - 1, api.MaxNum}
	for bits := 7; bits < 50; bits += 7 {
		nums = append(nums, 1<<bits-1, 1<<bits, 1<<bits+1)
	}
	m := made(1)
	for bits := range 50 {
		nums = append(nums, 1<<bits, m.below(1<<31)<<19>>(49-bits))
	}
	return nums
}

// slowNum is a number's form by its definition: digits to the base 128.
func slowNum(n int) string {
	if n < 128 {
		return string([]byte{byte(n)})
	}
	return string([]byte{byte(128 + n%128)}) + slowNum(n/128)
}

func slowText(s string) string { return slowNum(len(s)) + s }

func slowList(l []string) string {
	form := slowNum(len(l))
	for _, s := range l {
		form += slowText(s)
	}
	return form
}

func TestNum(t *testing.T) {
	for n, want := range map[int]string{
		0: "\x00", 1: "\x01", 127: "\x7f", 128: "\x80\x01", 300: "\xac\x02", 16383: "\xff\x7f", 16384: "\x80\x80\x01",
		api.MaxNum:     "\x80\x80\x80\x80\x80\x80\x80\x02",
		api.MaxNum - 1: "\xff\xff\xff\xff\xff\xff\xff\x01",
	} {
		if got, err := Num(n); got != want || err != api.OK {
			t.Errorf("P3.1: Num(%d) = %q, %d, want %q", n, got, err, want)
		}
	}
	for _, n := range edgeNums() {
		if got, err := Num(n); got != slowNum(n) || err != api.OK {
			t.Errorf("P3.1: Num(%d) = %q, %d, want %q", n, got, err, slowNum(n))
		}
	}
}

func TestNumRefused(t *testing.T) {
	for _, n := range []int{-1, -2, -128, math.MinInt, api.MaxNum + 1, api.MaxNum * 2, math.MaxInt} {
		if got, err := Num(n); got != "" || err != api.ErrPackNum {
			t.Errorf("P3.1: Num(%d) = %q, %d, want ErrPackNum", n, got, err)
		}
	}
}

func TestText(t *testing.T) {
	long := strings.Repeat("y", api.MaxPiece)
	for s, want := range map[string]string{
		"": "\x00", "ab": "\x02ab", "\x00": "\x01\x00", "ä\xff": "\x03ä\xff", long: "\xd0\x0f" + long,
		long[:127]: "\x7f" + long[:127], long[:128]: "\x80\x01" + long[:128],
	} {
		if got, err := Text(s); got != want || err != api.OK {
			t.Errorf("P3.2: Text of %d bytes = %q, %d", len(s), got, err)
		}
	}
	for _, size := range []int{api.MaxPiece + 1, api.MaxPiece + 128, 1 << 20} {
		if got, err := Text(strings.Repeat("y", size)); got != "" || err != api.ErrLong {
			t.Errorf("P3.2: Text of %d bytes: %d bytes, %d, want ErrLong", size, len(got), err)
		}
	}
}

func TestList(t *testing.T) {
	for _, c := range []struct {
		list []string
		want string
	}{
		{nil, "\x00"}, {[]string{}, "\x00"}, {[]string{""}, "\x01\x00"}, {[]string{"a", ""}, "\x02\x01a\x00"},
		{[]string{"", "a"}, "\x02\x00\x01a"}, {[]string{"\x00", "\x80", "ab"}, "\x03\x01\x00\x01\x80\x02ab"},
	} {
		if got, err := List(c.list); got != c.want || err != api.OK {
			t.Errorf("P3.2: List(%q) = %q, %d, want %q", c.list, got, err, c.want)
		}
	}
	most := make([]string, api.MaxList)
	if got, err := List(most); got != "\xa0\x1f"+strings.Repeat("\x00", api.MaxList) || err != api.OK {
		t.Errorf("P3.2: List of MaxList texts: %d bytes, %d", len(got), err)
	}
	long := strings.Repeat("y", api.MaxPiece)
	if got, err := List([]string{"a", long}); got != "\x02\x01a\xd0\x0f"+long || err != api.OK {
		t.Errorf("P3.2: List with a text of MaxPiece bytes: %d bytes, %d", len(got), err)
	}
}

func TestListRefused(t *testing.T) {
	long := strings.Repeat("y", api.MaxPiece+1)
	for what, list := range map[string][]string{
		"one text more than MaxList": make([]string, api.MaxList+1),
		"many more":                  make([]string, 1<<17),
		"a long text first":          {long, "a"},
		"a long text last":           {"a", "", long},
		"too many, and a long one":   append(make([]string, api.MaxList), long),
	} {
		if got, err := List(list); got != "" || err != api.ErrLong {
			t.Errorf("P3.2: List of %s: %d bytes, %d, want ErrLong", what, len(got), err)
		}
	}
}

func TestListLeavesItsArgument(t *testing.T) {
	backing := []string{"a", "b", "c", "d"}
	if got, err := List(backing[:2]); got != "\x02\x01a\x01b" || err != api.OK {
		t.Errorf("P3.2: %q, %d", got, err)
	}
	if !slices.Equal(backing, []string{"a", "b", "c", "d"}) {
		t.Errorf("R5: List changed what it was given: %q", backing)
	}
}

func TestTakeNum(t *testing.T) {
	for _, c := range []struct {
		s    string
		at   int
		n    int
		next int
		err  api.Errno
	}{
		{"\x00", 0, 0, 1, api.OK},
		{"\x7f", 0, 127, 1, api.OK},
		{"\x80\x01", 0, 128, 2, api.OK},
		{"\xac\x02\x05", 0, 300, 2, api.OK},
		{"a\x05b", 1, 5, 2, api.OK},
		{"\xac\x02", 1, 2, 2, api.OK},
		{"\x00\x00", 0, 0, 1, api.OK},
		{"\x80\x80\x80\x80\x80\x80\x80\x02", 0, api.MaxNum, 8, api.OK},
		{"\xff\xff\xff\xff\xff\xff\xff\x01", 0, api.MaxNum - 1, 8, api.OK},
		// Places that are none.
		{"", 1, 0, 0, api.ErrArg},
		{"", -1, 0, 0, api.ErrArg},
		{"\x01", 2, 0, 0, api.ErrArg},
		{"\x01", -1, 0, 0, api.ErrArg},
		{"\x01", math.MaxInt, 0, 0, api.ErrArg},
		{"\x01", math.MinInt, 0, 0, api.ErrArg},
		// Cut.
		{"", 0, 0, 0, api.ErrPackCut},
		{"\x01", 1, 0, 0, api.ErrPackCut},
		{"\x80", 0, 0, 0, api.ErrPackCut},
		{"\x01\xff", 1, 0, 0, api.ErrPackCut},
		{"\xff\xff\xff\xff\xff\xff\xff", 0, 0, 0, api.ErrPackCut},
		// Not the shortest.
		{"\x80\x00", 0, 0, 0, api.ErrPackForm},
		{"\x81\x00", 0, 0, 0, api.ErrPackForm},
		{"\x80\x80\x00", 0, 0, 0, api.ErrPackForm},
		{"\xff\xff\xff\xff\xff\xff\xff\x00", 0, 0, 0, api.ErrPackForm},
		// Too great.
		{"\x81\x80\x80\x80\x80\x80\x80\x02", 0, 0, 0, api.ErrPackForm},
		{"\x80\x80\x80\x80\x80\x80\x80\x03", 0, 0, 0, api.ErrPackForm},
		{"\x80\x80\x80\x80\x80\x80\x80\x7f", 0, 0, 0, api.ErrPackForm},
		// Too many bytes, whatever follows.
		{"\x80\x80\x80\x80\x80\x80\x80\x80", 0, 0, 0, api.ErrPackForm},
		{"\x80\x80\x80\x80\x80\x80\x80\x80\x01", 0, 0, 0, api.ErrPackForm},
		{"\xff\xff\xff\xff\xff\xff\xff\xff\xff\xff\xff\x01", 0, 0, 0, api.ErrPackForm},
	} {
		if n, next, err := TakeNum(c.s, c.at); n != c.n || next != c.next || err != c.err {
			t.Errorf("P3.3: TakeNum(%q, %d) = %d, %d, %d, want %d, %d, %d", c.s, c.at, n, next, err, c.n, c.next, c.err)
		}
	}
}

func TestTakeText(t *testing.T) {
	long := strings.Repeat("y", api.MaxPiece)
	for _, c := range []struct {
		s    string
		at   int
		text string
		next int
		err  api.Errno
	}{
		{"\x00", 0, "", 1, api.OK},
		{"\x02ab", 0, "ab", 3, api.OK},
		{"x\x02abc", 1, "ab", 4, api.OK},
		{"\x02\x00\xff", 0, "\x00\xff", 3, api.OK},
		{"\xd0\x0f" + long, 0, long, api.MaxPiece + 2, api.OK},
		{"\xd0\x0f" + long + "z", 0, long, api.MaxPiece + 2, api.OK},
		// TakeNum's own errors.
		{"", 1, "", 0, api.ErrArg},
		{"\x00", -1, "", 0, api.ErrArg},
		{"", 0, "", 0, api.ErrPackCut},
		{"\x80", 0, "", 0, api.ErrPackCut},
		{"\x80\x00", 0, "", 0, api.ErrPackForm},
		{"\x80\x80\x80\x80\x80\x80\x80\x80", 0, "", 0, api.ErrPackForm},
		// Too long, whether the bytes are there or not.
		{"\xd1\x0f", 0, "", 0, api.ErrPackForm},
		{"\xd1\x0fy" + long, 0, "", 0, api.ErrPackForm},
		{"\x80\x80\x80\x80\x80\x80\x80\x02", 0, "", 0, api.ErrPackForm},
		// Cut.
		{"\x01", 0, "", 0, api.ErrPackCut},
		{"\x03ab", 0, "", 0, api.ErrPackCut},
		{"\xd0\x0f" + long[1:], 0, "", 0, api.ErrPackCut},
	} {
		if text, next, err := TakeText(c.s, c.at); text != c.text || next != c.next || err != c.err {
			t.Errorf("P3.4: TakeText(%.20q, %d) = %.20q, %d, %d, want %d, %d", c.s, c.at, text, next, err, c.next, c.err)
		}
	}
}

func TestTakeList(t *testing.T) {
	most := strings.Repeat("\x00", api.MaxList)
	for _, c := range []struct {
		s    string
		at   int
		list []string
		next int
		err  api.Errno
	}{
		{"\x00", 0, nil, 1, api.OK},
		{"\x02\x01a\x00x", 0, []string{"a", ""}, 4, api.OK},
		{"zz\x02\x00\x01bx", 2, []string{"", "b"}, 6, api.OK},
		{"\xa0\x1f" + most, 0, make([]string, api.MaxList), api.MaxList + 2, api.OK},
		// The count's own errors.
		{"\x00", 2, nil, 0, api.ErrArg},
		{"\x00", -1, nil, 0, api.ErrArg},
		{"", 0, nil, 0, api.ErrPackCut},
		{"\x80", 0, nil, 0, api.ErrPackCut},
		{"\x82\x00\x00\x00", 0, nil, 0, api.ErrPackForm},
		// Too many, whether the texts are there or not.
		{"\xa1\x1f", 0, nil, 0, api.ErrPackForm},
		{"\xa1\x1f\x00" + most, 0, nil, 0, api.ErrPackForm},
		{"\x80\x80\x80\x80\x80\x80\x80\x02", 0, nil, 0, api.ErrPackForm},
		// The first error of a text.
		{"\xa0\x1f" + most[1:], 0, nil, 0, api.ErrPackCut},
		{"\x02\x01a", 0, nil, 0, api.ErrPackCut},
		{"\x02\x01a\x02b", 0, nil, 0, api.ErrPackCut},
		{"\x02\x80\x00\x05", 0, nil, 0, api.ErrPackForm},
		{"\x02\xd1\x0f", 0, nil, 0, api.ErrPackForm},
		{"\x02\x01a\x81\x00", 0, nil, 0, api.ErrPackForm},
		{"\x03\x01a\x05b\x81\x00", 0, nil, 0, api.ErrPackCut},
	} {
		if list, next, err := TakeList(c.s, c.at); !slices.Equal(list, c.list) || next != c.next || err != c.err {
			t.Errorf("P3.5: TakeList(%.20q, %d) = %.20q, %d, %d, want %d, %d", c.s, c.at, list, next, err, c.next, c.err)
		}
	}
}

func TestTakeListAnswersNewMemory(t *testing.T) {
	one, _, _ := TakeList("\x02\x01a\x01b", 0)
	two, _, _ := TakeList("\x02\x01a\x01b", 0)
	one = append(one, "c")
	one[0] = "changed"
	if two = append(two, "d"); !slices.Equal(two, []string{"a", "b", "d"}) || one[2] != "c" {
		t.Errorf("R5: two answers share memory: %q, %q", one, two)
	}
}

// surroundings are bytes that may stand ahead of a form or behind it.
var surroundings = [6]string{"", "\x00", "\x80", "\xff\xff", "abc", "\x80\x80\x80\x80\x80\x80\x80\x80\x80"}

func TestWhatIsWrittenIsRead(t *testing.T) {
	m := made(7)
	for _, n := range edgeNums() {
		ahead, behind := surroundings[m.below(len(surroundings))], surroundings[m.below(len(surroundings))]
		form, _ := Num(n)
		if got, next, err := TakeNum(ahead+form+behind, len(ahead)); got != n || next != len(ahead+form) || err != api.OK {
			t.Errorf("P3.6: TakeNum of Num(%d) = %d, %d, %d", n, got, next, err)
		}
	}
	for range 3000 {
		ahead, behind := surroundings[m.below(len(surroundings))], surroundings[m.below(len(surroundings))]
		list := m.list()
		form, err := List(list)
		if form != slowList(list) || err != api.OK {
			t.Fatalf("P3.2: List(%q) = %q, %d", list, form, err)
		}
		got, next, err := TakeList(ahead+form+behind, len(ahead))
		if !slices.Equal(got, list) || next != len(ahead+form) || err != api.OK {
			t.Fatalf("P3.6: TakeList of List(%q) = %q, %d, %d", list, got, next, err)
		}
		for _, s := range list {
			form, _ := Text(s)
			got, next, err := TakeText(ahead+form+behind, len(ahead))
			if form != slowText(s) || got != s || next != len(ahead+form) || err != api.OK {
				t.Fatalf("P3.6: TakeText of Text(%q) = %q, %d, %d", s, got, next, err)
			}
		}
	}
}

func (m *made) list() []string {
	list := make([]string, m.below(6))
	for i := range list {
		list[i] = strings.Repeat([]string{"\xff", "a\x00", "b\x81"}[m.below(3)], m.below(4))
		if m.below(3) == 0 {
			list[i] = strings.Repeat("b\x81", m.below(120))
		}
	}
	return list
}

// eachShort visits all rows of at most five bytes of the given ones.
func eachShort(bytes string, visit func(s string)) {
	rows := []string{""}
	for range 6 {
		var longer []string
		for _, row := range rows {
			visit(row)
			for i := range len(bytes) {
				longer = append(longer, row+bytes[i:i+1])
			}
		}
		rows = longer
	}
}

func TestWhatIsReadWasWritten(t *testing.T) {
	eachShort("\x00\x01\x02\x03\x7f\x80\x81\xff", func(s string) {
		if n, next, err := TakeNum(s, 0); err == api.OK {
			if form, _ := Num(n); form != s[:next] {
				t.Errorf("P3.6: TakeNum(%q) = %d, whose form is %q", s, n, form)
			}
		}
		if text, next, err := TakeText(s, 0); err == api.OK {
			if form, _ := Text(text); form != s[:next] {
				t.Errorf("P3.6: TakeText(%q) = %q, whose form is %q", s, text, form)
			}
		}
		if list, next, err := TakeList(s, 0); err == api.OK {
			if form, _ := List(list); form != s[:next] {
				t.Errorf("P3.6: TakeList(%q) = %q, whose form is %q", s, list, form)
			}
		}
	})
}

func TestBeginningsAreCut(t *testing.T) {
	m := made(11)
	for _, n := range edgeNums() {
		form, _ := Num(n)
		for size := range len(form) {
			if _, next, err := TakeNum(form[:size], 0); next != 0 || err != api.ErrPackCut {
				t.Errorf("P3.3: TakeNum of %d bytes of Num(%d): %d, want ErrPackCut", size, n, err)
			}
		}
	}
	for range 200 {
		form, _ := List(m.list())
		for size := range len(form) {
			if list, next, err := TakeList(form[:size], 0); len(list) != 0 || next != 0 || err != api.ErrPackCut {
				t.Fatalf("P3.5: TakeList of %d bytes of %q: %q, %d, %d, want ErrPackCut", size, form, list, next, err)
			}
		}
	}
}
