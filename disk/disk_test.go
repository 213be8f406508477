package disk

import (
	"math"
	"strings"
	"testing"

	"odyssey/api"
)

func newDisk(t *testing.T, room int) *Disk {
	t.Helper()
	d, err := New(room)
	if d == nil || err != api.OK {
		t.Fatalf("D1: New(%d): %d", room, err)
	}
	return d
}

// mustBe fails if a file does not have these bytes, so many of them safe.
func mustBe(t *testing.T, promise string, d *Disk, file int, bytes string, safe int) {
	t.Helper()
	got, err := d.Read(file)
	if got != bytes || err != api.OK {
		t.Errorf("%s: Read(%d) = %q, %d, want %q", promise, file, got, err, bytes)
	}
	size, isSafe, err := d.Size(file)
	if size != len(bytes) || isSafe != safe || err != api.OK {
		t.Errorf("%s: Size(%d) = %d, %d, %d, want %d, %d", promise, file, size, isSafe, err, len(bytes), safe)
	}
}

func mustAnswer(t *testing.T, promise string, got, want api.Errno) {
	t.Helper()
	if got != want {
		t.Errorf("%s: answer %d, want %d", promise, got, want)
	}
}

func TestNew(t *testing.T) {
	for _, room := range []int{1, 2, 10, api.MaxRoom - 1, api.MaxRoom} {
		d := newDisk(t, room)
		if d.Room() != room || d.Used() != 0 {
			t.Errorf("D1: New(%d): Room %d, Used %d", room, d.Room(), d.Used())
		}
		for file := range api.MaxFiles {
			mustBe(t, "D1", d, file, "", 0)
		}
	}
	for _, room := range []int{0, -1, math.MinInt, api.MaxRoom + 1, math.MaxInt} {
		if d, err := New(room); d != nil || err != api.ErrArg {
			t.Errorf("D1: New(%d): %d, want ErrArg", room, err)
		}
	}
}

func TestExample(t *testing.T) {
	d := newDisk(t, 10)
	for _, err := range []api.Errno{d.Append(0, "abc"), d.Sync(0), d.Append(0, "de"), d.Append(1, "xyz")} {
		mustAnswer(t, "D3, D4", err, api.OK)
	}
	mustBe(t, "D6", d, 0, "abcde", 3)
	if d.Used() != 8 {
		t.Errorf("D8: Used %d, want 8", d.Used())
	}
	mustAnswer(t, "D3", d.Append(2, "123"), api.ErrDiskFull)
	mustAnswer(t, "D3", d.Append(2, "12"), api.OK)
	d.Crash(3)
	mustBe(t, "D7", d, 0, "abcde", 5)
	mustBe(t, "D7", d, 1, "x", 1)
	mustBe(t, "D7", d, 2, "", 0)
	mustAnswer(t, "D5", d.Cut(0, 4), api.OK)
	mustAnswer(t, "D5", d.Cut(0, 5), api.ErrArg)
	mustAnswer(t, "D2", d.Cut(4, 0), api.ErrDiskFile)
	mustBe(t, "D5", d, 0, "abcd", 4)
}

func TestWrongFiles(t *testing.T) {
	d := newDisk(t, 4)
	d.Append(0, "abcd")
	for _, file := range []int{-1, api.MaxFiles, api.MaxFiles + 1, math.MinInt, math.MaxInt} {
		mustAnswer(t, "D2: Append", d.Append(file, ""), api.ErrDiskFile)
		mustAnswer(t, "D2: Append that finds no room", d.Append(file, "more than that"), api.ErrDiskFile)
		mustAnswer(t, "D2: Sync", d.Sync(file), api.ErrDiskFile)
		mustAnswer(t, "D2: Cut", d.Cut(file, 0), api.ErrDiskFile)
		mustAnswer(t, "D2: Cut at a wrong size", d.Cut(file, -1), api.ErrDiskFile)
		if s, err := d.Read(file); s != "" || err != api.ErrDiskFile {
			t.Errorf("D2: Read(%d) = %q, %d, want ErrDiskFile", file, s, err)
		}
		if size, safe, err := d.Size(file); size != 0 || safe != 0 || err != api.ErrDiskFile {
			t.Errorf("D2: Size(%d) = %d, %d, %d, want ErrDiskFile", file, size, safe, err)
		}
	}
	mustBe(t, "R3", d, 0, "abcd", 0)
	for file := 1; file < api.MaxFiles; file++ {
		mustBe(t, "R3", d, file, "", 0)
	}
}

func TestAppend(t *testing.T) {
	d := newDisk(t, 10)
	mustAnswer(t, "D3", d.Append(3, "ab"), api.OK)
	mustAnswer(t, "D3", d.Append(3, ""), api.OK)
	mustBe(t, "D3", d, 3, "ab", 0)
	d.Sync(3)
	mustAnswer(t, "D3", d.Append(3, ""), api.OK)
	mustBe(t, "D3: of no bytes nothing changes", d, 3, "ab", 2)
	mustAnswer(t, "D3", d.Append(3, "\x00\xff"), api.OK)
	mustBe(t, "D3", d, 3, "ab\x00\xff", 2)
}

func TestFullDisk(t *testing.T) {
	d := newDisk(t, 10)
	mustAnswer(t, "D3", d.Append(0, "12345678901"), api.ErrDiskFull)
	mustAnswer(t, "D3", d.Append(0, "1234"), api.OK)
	mustAnswer(t, "D3", d.Append(3, "1234567"), api.ErrDiskFull)
	mustAnswer(t, "D3: the last bytes of the room", d.Append(3, "123456"), api.OK)
	for file := range api.MaxFiles {
		mustAnswer(t, "D3: a full disk", d.Append(file, "1"), api.ErrDiskFull)
		mustAnswer(t, "D3: no bytes on a full disk", d.Append(file, ""), api.OK)
	}
	mustBe(t, "D3: nothing is put there", d, 0, "1234", 0)
	mustBe(t, "D3: nothing is put there", d, 3, "123456", 0)
	if d.Used() != 10 {
		t.Errorf("P4.3: Used %d, want 10", d.Used())
	}
	d.Cut(0, 3)
	mustAnswer(t, "P4.3", d.Append(1, "ab"), api.ErrDiskFull)
	mustAnswer(t, "P4.3: the room that a Cut made", d.Append(1, "a"), api.OK)
	d.Crash(0)
	mustAnswer(t, "P4.3: the room that a Crash made", d.Append(2, "1234567890"), api.OK)
}

func TestGreatestRoom(t *testing.T) {
	d := newDisk(t, api.MaxRoom)
	bytes := strings.Repeat("x", api.MaxRoom)
	mustAnswer(t, "D3", d.Append(1, bytes+"y"), api.ErrDiskFull)
	mustAnswer(t, "D3", d.Append(1, bytes), api.OK)
	mustBe(t, "D3", d, 1, bytes, 0)
	small := newDisk(t, 1)
	mustAnswer(t, "D3", small.Append(0, "ab"), api.ErrDiskFull)
	mustAnswer(t, "D3", small.Append(0, "a"), api.OK)
	mustAnswer(t, "D3", small.Append(0, "b"), api.ErrDiskFull)
}

func TestSync(t *testing.T) {
	d := newDisk(t, 100)
	mustAnswer(t, "D4: a file of no bytes", d.Sync(0), api.OK)
	mustBe(t, "D4", d, 0, "", 0)
	d.Append(0, "ab")
	d.Append(1, "cd")
	mustAnswer(t, "D4", d.Sync(0), api.OK)
	mustBe(t, "D4", d, 0, "ab", 2)
	mustBe(t, "P4.4", d, 1, "cd", 0)
	d.Append(0, "c")
	mustBe(t, "D4", d, 0, "abc", 2)
	mustAnswer(t, "D4", d.Sync(0), api.OK)
	mustBe(t, "D4", d, 0, "abc", 3)
	for _, keep := range []int{-1, 0, 1} {
		d.Crash(keep)
		mustBe(t, "P4.1", d, 0, "abc", 3)
	}
}

func TestCut(t *testing.T) {
	d := newDisk(t, 100)
	mustAnswer(t, "D5: none of none", d.Cut(2, 0), api.OK)
	mustAnswer(t, "D5", d.Cut(2, 1), api.ErrArg)
	d.Append(2, "abcdef")
	d.Sync(2)
	d.Append(2, "ghi")
	for _, size := range []int{-1, 10, 100, math.MinInt, math.MaxInt} {
		mustAnswer(t, "D5", d.Cut(2, size), api.ErrArg)
	}
	mustBe(t, "R3", d, 2, "abcdefghi", 6)
	mustAnswer(t, "D5: at the size", d.Cut(2, 9), api.OK)
	mustBe(t, "D5: at the size", d, 2, "abcdefghi", 6)
	mustAnswer(t, "D5: above what is safe", d.Cut(2, 7), api.OK)
	mustBe(t, "D5: above what is safe", d, 2, "abcdefg", 6)
	mustAnswer(t, "D5: at what is safe", d.Cut(2, 6), api.OK)
	mustBe(t, "D5: at what is safe", d, 2, "abcdef", 6)
	mustAnswer(t, "D5: below what is safe", d.Cut(2, 2), api.OK)
	mustBe(t, "D5: below what is safe", d, 2, "ab", 2)
	mustAnswer(t, "D5: at 0", d.Cut(2, 0), api.OK)
	mustBe(t, "D5: at 0", d, 2, "", 0)
}

func TestWhatIsCutDoesNotComeBack(t *testing.T) {
	for _, keep := range []int{-1, 0, 1, 2, 100} {
		d := newDisk(t, 100)
		d.Append(1, "abcdef")
		d.Sync(1)
		d.Cut(1, 2)
		d.Crash(keep)
		mustBe(t, "D5: a Crash behind a Cut", d, 1, "ab", 2)
		d.Append(1, "XY")
		d.Crash(keep)
		stay := min(max(keep, 0), 2)
		mustBe(t, "D5: new bytes behind a Cut", d, 1, "abXY"[:2+stay], 2+stay)
	}
}

func TestCrashKeeps(t *testing.T) {
	for _, c := range []struct {
		keep  int
		files [api.MaxFiles]string
	}{
		{math.MinInt, [api.MaxFiles]string{"S", "", "TU", ""}},
		{-1, [api.MaxFiles]string{"S", "", "TU", ""}},
		{0, [api.MaxFiles]string{"S", "", "TU", ""}},
		{1, [api.MaxFiles]string{"Sa", "", "TU", ""}},
		{2, [api.MaxFiles]string{"Sab", "", "TU", ""}},
		{3, [api.MaxFiles]string{"Sab", "c", "TU", ""}},
		{4, [api.MaxFiles]string{"Sab", "c", "TUd", ""}},
		{5, [api.MaxFiles]string{"Sab", "c", "TUd", "e"}},
		{6, [api.MaxFiles]string{"Sab", "c", "TUd", "ef"}},
		{7, [api.MaxFiles]string{"Sab", "c", "TUd", "ef"}},
		{math.MaxInt, [api.MaxFiles]string{"Sab", "c", "TUd", "ef"}},
	} {
		d := newDisk(t, 9)
		d.Append(0, "S")
		d.Append(2, "TU")
		d.Sync(0)
		d.Sync(2)
		for file, s := range map[int]string{0: "ab", 1: "c", 2: "d", 3: "ef"} {
			d.Append(file, s)
		}
		d.Crash(c.keep)
		for _, again := range []int{c.keep, -1, 0, 1, 100} {
			for file, bytes := range c.files {
				mustBe(t, "D7, P4.2", d, file, bytes, len(bytes))
			}
			if want := 3 + min(max(c.keep, 0), 6); d.Used() != want {
				t.Errorf("P4.2: Crash(%d): Used %d, want %d", c.keep, d.Used(), want)
			}
			// P4.5: the second one changes nothing.
			d.Crash(again)
		}
	}
}

func TestReadAnswersWhatStoodThere(t *testing.T) {
	d := newDisk(t, 100)
	d.Append(0, "abc")
	s, _ := d.Read(0)
	d.Cut(0, 0)
	d.Append(0, "xyz")
	if s != "abc" {
		t.Errorf("R5: what Read answered has become %q", s)
	}
}

func TestCopy(t *testing.T) {
	d := newDisk(t, 12)
	d.Append(0, "abcd")
	d.Sync(0)
	d.Append(0, "ef")
	d.Append(3, "xy")
	c := d.Copy()
	if c.Room() != 12 || c.Used() != 8 {
		t.Errorf("D8: the copy's room %d, used %d", c.Room(), c.Used())
	}
	mustBe(t, "D8", c, 0, "abcdef", 4)
	mustBe(t, "D8", c, 3, "xy", 0)

	c.Append(0, "12")
	d.Append(0, "34")
	mustBe(t, "D8: both are appended to", c, 0, "abcdef12", 4)
	mustBe(t, "D8: both are appended to", d, 0, "abcdef34", 4)
	c.Sync(3)
	mustBe(t, "D8: the copy is synced", d, 3, "xy", 0)
	d.Cut(0, 1)
	d.Append(0, "56")
	mustBe(t, "D8: the disk is cut", c, 0, "abcdef12", 4)
	c.Crash(0)
	mustBe(t, "D8: the copy crashes", c, 0, "abcd", 4)
	mustBe(t, "D8: the copy crashes", c, 3, "xy", 2)
	mustBe(t, "D8: the copy crashes", d, 0, "a56", 1)
	d.Crash(1)
	mustBe(t, "D8: the disk crashes", d, 0, "a5", 2)
	mustBe(t, "D8: the disk crashes", d, 3, "", 0)
	mustBe(t, "D8: the disk crashes", c, 3, "xy", 2)
	mustAnswer(t, "D8: the copy's room", c.Append(1, "1234567"), api.ErrDiskFull)
	mustAnswer(t, "D8: the copy's room", c.Append(1, "123456"), api.OK)
}

// plain is what a disk must be, told in texts: for each file what is safe and what is not.
type plain struct {
	safe, loose [api.MaxFiles]string
	room        int
}

func (p *plain) used() int {
	return len(strings.Join(p.safe[:], "")) + len(strings.Join(p.loose[:], ""))
}

func (p *plain) append(file int, s string) api.Errno {
	if p.used()+len(s) > p.room {
		return api.ErrDiskFull
	}
	p.loose[file] += s
	return api.OK
}

func (p *plain) cut(file, size int) api.Errno {
	all := p.safe[file] + p.loose[file]
	if size < 0 || size > len(all) {
		return api.ErrArg
	}
	safe := min(size, len(p.safe[file]))
	p.safe[file], p.loose[file] = all[:safe], all[safe:size]
	return api.OK
}

func (p *plain) crash(keep int) {
	for file := range p.loose {
		for i := range len(p.loose[file]) {
			if keep > 0 {
				p.safe[file] += p.loose[file][i : i+1]
				keep--
			}
		}
		p.loose[file] = ""
	}
}

// TestManyCalls does rows of calls that follow a fixed rule on a disk and on its plain likeness.
func TestManyCalls(t *testing.T) {
	state := uint32(1)
	below := func(n int) int {
		state = state*1664525 + 1013904223
		return int(state >> 8 % uint32(n))
	}
	for room := 1; room < 40; room++ {
		d, p := newDisk(t, room), plain{room: room}
		for step := range 400 {
			file := below(api.MaxFiles)
			switch below(8) {
			case 0, 1, 2:
				s := "abcdefghijkl"[:below(13)]
				mustAnswer(t, "D3", d.Append(file, s), p.append(file, s))
			case 3:
				mustAnswer(t, "D4", d.Sync(file), api.OK)
				p.safe[file] += p.loose[file]
				p.loose[file] = ""
			case 4, 5:
				size := below(room+2) - 1
				mustAnswer(t, "D5", d.Cut(file, size), p.cut(file, size))
			case 6:
				keep := below(room) - 1
				d.Crash(keep)
				p.crash(keep)
			default:
				d = d.Copy()
			}
			for file := range api.MaxFiles {
				mustBe(t, "P4.4", d, file, p.safe[file]+p.loose[file], len(p.safe[file]))
			}
			if d.Used() != p.used() || d.Used() > d.Room() || d.Room() != room {
				t.Errorf("P4.3: Used %d of %d, want %d of %d", d.Used(), d.Room(), p.used(), room)
			}
			if t.Failed() {
				t.Fatalf("room %d, step %d", room, step)
			}
		}
	}
}
