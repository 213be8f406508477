package journal

import (
	"slices"
	"strings"
	"testing"

	"odyssey/api"
	"odyssey/disk"
	"odyssey/frame"
	"odyssey/pack"
)

func newDisk(t *testing.T, room int) *disk.Disk {
	t.Helper()
	d, err := disk.New(room)
	if d == nil || err != api.OK {
		t.Fatalf("disk.New(%d): %d", room, err)
	}
	return d
}

// filled makes a disk of the greatest room whose files 0 and 1 have these bytes, all safe.
func filled(t *testing.T, zero, one string) *disk.Disk {
	t.Helper()
	d := newDisk(t, api.MaxRoom)
	for file, bytes := range []string{zero, one} {
		if err := d.Append(file, bytes); err != api.OK {
			t.Fatalf("disk.Append: %d", err)
		}
		d.Sync(file)
	}
	return d
}

func newJournal(t *testing.T, d *disk.Disk) *Journal {
	t.Helper()
	j, err := New(d)
	if j == nil || err != api.OK {
		t.Fatalf("J1: New: %d, want OK", err)
	}
	return j
}

func mustOpen(t *testing.T, promise string, d *disk.Disk, snap string, records ...string) *Journal {
	t.Helper()
	j, gotSnap, got, err := Open(d)
	if j == nil || err != api.OK {
		t.Fatalf("%s: Open: %d, want OK", promise, err)
	}
	if gotSnap != snap || !slices.Equal(got, records) {
		t.Fatalf("%s: Open = a snapshot of %d bytes, %d records %.80q, want %d bytes, %d records %.80q", promise, len(gotSnap), len(got), got, len(snap), len(records), records)
	}
	return j
}

func mustStat(t *testing.T, promise string, j *Journal, gen, count, size int) {
	t.Helper()
	if a, b, c := j.Stat(); a != gen || b != count || c != size {
		t.Errorf("%s: Stat = %d, %d, %d, want %d, %d, %d", promise, a, b, c, gen, count, size)
	}
}

func mustAnswer(t *testing.T, promise string, got, want api.Errno) {
	t.Helper()
	if got != want {
		t.Errorf("%s: answer %d, want %d", promise, got, want)
	}
}

// mustHave fails if a file does not have these bytes, so many of them safe.
func mustHave(t *testing.T, promise string, d *disk.Disk, file int, bytes string, safe int) {
	t.Helper()
	got, _ := d.Read(file)
	_, isSafe, _ := d.Size(file)
	if got != bytes || isSafe != safe {
		t.Errorf("%s: the file %d has %d bytes (%.40q), %d safe, want %d (%.40q), %d", promise, file, len(got), got, isSafe, len(bytes), bytes, safe)
	}
}

// mustBeSame fails if two disks differ in what their calls tell.
func mustBeSame(t *testing.T, promise string, got, want *disk.Disk) {
	t.Helper()
	for file := range api.MaxFiles {
		bytes, _ := want.Read(file)
		_, safe, _ := want.Size(file)
		mustHave(t, promise, got, file, bytes, safe)
	}
}

func framed(records ...string) string {
	out := ""
	for _, record := range records {
		f, _ := frame.Wrap(record)
		out += f
	}
	return out
}

func head(gen int, snap string) string {
	num, _ := pack.Num(gen)
	return "H" + num + snap
}

func TestExample(t *testing.T) {
	d := newDisk(t, 1000)
	j := newJournal(t, d)
	mustStat(t, "J5", j, 1, 0, 10)
	if x, err := New(d); x != nil || err != api.ErrJournalUsed {
		t.Errorf("J1: New again: %d, want ErrJournalUsed", err)
	}
	mustAnswer(t, "J3: Add", j.Add("abc"), api.OK)
	mustAnswer(t, "J3: Sync", j.Sync(), api.OK)
	mustAnswer(t, "J3: Add", j.Add("de"), api.OK)
	mustStat(t, "J5", j, 1, 2, 31)
	d.Crash(9)
	j = mustOpen(t, "J2", d, "", "abc")
	mustAnswer(t, "J4: Compact", j.Compact("s"), api.OK)
	mustStat(t, "J5", j, 2, 0, 11)
	mustOpen(t, "J2", d, "s")
	if x, snap, records, err := Open(newDisk(t, 1000)); x != nil || snap != "" || len(records) != 0 || err != api.ErrJournalNone {
		t.Errorf("J2: Open of an empty disk: %d, want ErrJournalNone", err)
	}
	if x, snap, records, err := Open(nil); x != nil || snap != "" || len(records) != 0 || err != api.ErrArg {
		t.Errorf("J2: Open of nil: %d, want ErrArg", err)
	}
}

func TestNew(t *testing.T) {
	if j, err := New(nil); j != nil || err != api.ErrArg {
		t.Errorf("J1: New(nil): %d, want ErrArg", err)
	}
	d := newDisk(t, 1000)
	d.Append(2, "two")
	d.Append(3, "three")
	d.Sync(3)
	mustStat(t, "J1", newJournal(t, d), 1, 0, 10)
	mustHave(t, "J1", d, 0, "\xa7\x02\x00\x00"+framed(head(1, ""))[4:8]+"H\x01", 10)
	mustHave(t, "J1", d, 1, "", 0)
	mustHave(t, "J1: the files 2 and 3 are never touched", d, 2, "two", 0)
	mustHave(t, "J1: the files 2 and 3 are never touched", d, 3, "three", 5)
	d.Crash(0)
	mustOpen(t, "J1: the head is safe", d, "")
}

func TestNewOnUsedFiles(t *testing.T) {
	for file := range 2 {
		for _, bytes := range []string{"x", framed(head(1, ""))} {
			for _, room := range []int{len(bytes), 1000} { // no room is named behind used files
				d := newDisk(t, room)
				d.Append(file, bytes)
				was := d.Copy()
				if j, err := New(d); j != nil || err != api.ErrJournalUsed {
					t.Errorf("J1: New, the file %d has bytes: %d, want ErrJournalUsed", file, err)
				}
				mustBeSame(t, "R3", d, was)
			}
		}
	}
}

func TestNewRoom(t *testing.T) {
	for other := range 3 {
		bytes := strings.Repeat("x", other)
		d := newDisk(t, 9+other)
		d.Append(2, bytes)
		was := d.Copy()
		if j, err := New(d); j != nil || err != api.ErrDiskFull {
			t.Errorf("J1: New with room for nine bytes: %d, want ErrDiskFull", err)
		}
		mustBeSame(t, "R3", d, was)
		d = newDisk(t, 10+other)
		d.Append(2, bytes)
		mustStat(t, "J1: a head just fits", newJournal(t, d), 1, 0, 10)
	}
}

func TestOpenTakesTheGreaterGeneration(t *testing.T) {
	for _, c := range []struct{ zero, one, holds int }{
		{1, 2, 1}, {2, 1, 0}, {3, 3, 0}, {1, 1, 0},
		{127, 128, 1}, {128, 127, 0}, {255, 256, 1}, {256, 255, 0},
		{api.MaxNum, api.MaxNum - 1, 0}, {api.MaxNum - 1, api.MaxNum, 1}, {api.MaxNum, api.MaxNum, 0},
	} {
		gens := [2]int{c.zero, c.one}
		snaps := [2]string{"snap zero", "snap one"}
		var files [2]string
		for file := range files {
			files[file] = framed(head(gens[file], snaps[file]), "record", snaps[file])
		}
		d := filled(t, files[0], files[1])
		j := mustOpen(t, "J2", d, snaps[c.holds], "record", snaps[c.holds])
		mustHave(t, "J2: the one that holds", d, c.holds, files[c.holds], len(files[c.holds]))
		mustHave(t, "J2: the other one", d, 1-c.holds, "", 0)
		mustStat(t, "J5", j, gens[c.holds], 2, len(files[c.holds]))
	}
}

// notGood gives the bytes of files that are not good.
func notGood() []string {
	good := framed(head(1, "snap"))
	turned := good[:len(good)-1] + "P"
	return []string{
		"",
		"x",
		good[:len(good)-1],
		"x" + good,
		turned,
		turned + good,
		framed(""),
		framed("H"),
		framed("h\x01"),
		framed("\x01H"),
		framed("H\x00"),
		framed("H\x00snap"),
		framed("H\x80"),
		framed("H\x81\x00"),
		framed("H\x81\x80\x80\x80\x80\x80\x80\x02"),
		framed("H\xff\xff\xff\xff\xff\xff\xff\x7f"),
		framed("H\x80\x80\x80\x80\x80\x80\x80\x80\x01"),
		framed("", head(1, "snap")),
		framed("record", head(1, "snap"), "record"),
		framed(head(1, strings.Repeat("x", api.MaxSnap+1))),
		framed(head(api.MaxNum, strings.Repeat("x", api.MaxSnap+1))),
		framed("H\x01" + strings.Repeat("x", api.MaxFrame-2)),
	}
}

func TestOpenOfFilesThatAreNotGood(t *testing.T) {
	for i, zero := range notGood() {
		for _, one := range []string{"", zero, framed("H\x00")} {
			d := newDisk(t, api.MaxRoom)
			d.Append(0, zero)
			d.Append(1, one)
			d.Append(2, "other")
			was := d.Copy()
			if j, snap, records, err := Open(d); j != nil || snap != "" || len(records) != 0 || err != api.ErrJournalNone {
				t.Errorf("J2: Open of broken files (%d): %d, want ErrJournalNone", i, err)
			}
			mustBeSame(t, "R3", d, was)
		}
		good := framed(head(7, "snap"), "record")
		d := filled(t, good, zero)
		mustOpen(t, "J2: the file 0 alone is good", d, "snap", "record")
		mustHave(t, "J2: the other file is cut", d, 1, "", 0)
		d = filled(t, zero, good)
		mustOpen(t, "J2: the file 1 alone is good", d, "snap", "record")
		mustHave(t, "J2: the other file is cut", d, 0, "", 0)
	}
}

func TestOpenOfTheLongestHeads(t *testing.T) {
	for _, gen := range []int{1, 300, api.MaxNum} {
		snap := strings.Repeat("s", api.MaxSnap)
		bytes := framed(head(gen, snap), "a")
		d := filled(t, bytes, "")
		mustStat(t, "J5", mustOpen(t, "J2: the longest snapshot", d, snap, "a"), gen, 1, len(bytes))
	}
}

// A snapshot begins right behind the number, whatever its bytes look like.
func TestOpenOfOddSnapshots(t *testing.T) {
	for _, snap := range []string{"", "\x00", "\x80", "H", head(9, "x"), framed(head(9, "x")), "\xa7\x00\x00\x00"} {
		d := filled(t, framed(head(200, snap), snap), "")
		mustOpen(t, "J2", d, snap, snap)
	}
}

func TestOpenCuts(t *testing.T) {
	start := framed(head(3, "snap"), "a", "")
	longest := strings.Repeat("y", api.MaxRecord)
	long := framed(strings.Repeat("x", api.MaxRecord+1))
	torn := framed("torn")
	for _, c := range []struct {
		stays, goes string
		records     []string
	}{
		{start, "", []string{"a", ""}},
		{start, "torn", []string{"a", ""}},
		{start, torn[:len(torn)-1], []string{"a", ""}},
		{start, torn[:1], []string{"a", ""}},
		{start, "x" + framed("behind"), []string{"a", ""}},
		{start, long, []string{"a", ""}},
		{start, long + framed("behind"), []string{"a", ""}},
		{start, long + framed("behind") + "torn", []string{"a", ""}},
		{start, long + long, []string{"a", ""}},
		{start, framed(strings.Repeat("x", api.MaxFrame), "behind"), []string{"a", ""}},
		{start + framed(longest), long, []string{"a", "", longest}},
		{start + framed(longest, "b"), "torn", []string{"a", "", longest, "b"}},
		{start + framed(head(9, "a second head")), "torn", []string{"a", "", head(9, "a second head")}},
		{framed(head(3, "snap")), long + framed("a"), nil},
		{framed(head(3, "snap")), torn[:5], nil},
	} {
		for file := range 2 {
			var files [2]string
			files[file] = c.stays + c.goes
			d := filled(t, files[0], files[1])
			j := mustOpen(t, "J2", d, "snap", c.records...)
			mustHave(t, "J2: what is cut", d, file, c.stays, len(c.stays))
			mustStat(t, "J5", j, 3, len(c.records), len(c.stays))
			mustAnswer(t, "J3", j.Add("next"), api.OK)
			mustHave(t, "J3: behind all others", d, file, c.stays+framed("next"), len(c.stays))
			mustOpen(t, "J2", d, "snap", append(slices.Clone(c.records), "next")...)
		}
	}
}

func TestOpenMakesSafe(t *testing.T) {
	bytes := framed(head(3, "snap"), "a", "b")
	for file := range 2 {
		for _, other := range []string{"", framed(head(2, "old"), "c"), "junk"} {
			d := newDisk(t, 1000)
			d.Append(file, bytes+"torn")
			d.Append(1-file, other)
			d.Append(2, "two")
			d.Append(3, "three")
			mustOpen(t, "J2", d, "snap", "a", "b")
			mustHave(t, "J2: all is made safe", d, file, bytes, len(bytes))
			mustHave(t, "J2: the other one", d, 1-file, "", 0)
			mustHave(t, "the files 2 and 3 are never touched", d, 2, "two", 0)
			mustHave(t, "the files 2 and 3 are never touched", d, 3, "three", 0)
			d.Crash(0)
			mustOpen(t, "J2: all is made safe", d, "snap", "a", "b")
		}
	}
}

func TestOpenNeedsNoRoom(t *testing.T) {
	bytes := framed(head(3, "snap"), "a")
	d := newDisk(t, len(bytes))
	d.Append(1, bytes)
	j := mustOpen(t, "J2", d, "snap", "a")
	mustAnswer(t, "J3", j.Add(""), api.ErrDiskFull)
	mustAnswer(t, "J4", j.Compact(""), api.ErrDiskFull)
	mustStat(t, "R3", j, 3, 1, len(bytes))
}

func TestAdd(t *testing.T) {
	d := newDisk(t, 100000)
	j := newJournal(t, d)
	file := framed(head(1, ""))
	safe := len(file)
	for i, record := range []string{"", "a", head(5, "x"), framed("inner"), strings.Repeat("r", api.MaxRecord), "\xff"} {
		mustAnswer(t, "J3: Add", j.Add(record), api.OK)
		file += framed(record)
		mustHave(t, "J3: behind all others, not safe", d, 0, file, safe)
		mustStat(t, "J5", j, 1, i+1, len(file))
		if i%2 == 1 {
			mustAnswer(t, "J3: Sync", j.Sync(), api.OK)
			safe = len(file)
			mustHave(t, "J3: all records are safe", d, 0, file, safe)
		}
	}
	mustAnswer(t, "J3: Sync again", j.Sync(), api.OK)
	mustStat(t, "J5", j, 1, 6, len(file))
	mustHave(t, "J3: the other file", d, 1, "", 0)
}

func TestAddTooLong(t *testing.T) {
	for _, room := range []int{10, 100000} { // ErrLong is named first
		d := newDisk(t, room)
		j := newJournal(t, d)
		was := d.Copy()
		for _, size := range []int{api.MaxRecord + 1, api.MaxFrame, api.MaxFrame + 1, 1 << 21} {
			mustAnswer(t, "J3: too long", j.Add(strings.Repeat("x", size)), api.ErrLong)
		}
		mustStat(t, "R3", j, 1, 0, 10)
		mustBeSame(t, "R3", d, was)
	}
}

func TestAddRoom(t *testing.T) {
	for _, size := range []int{0, 1, 100, api.MaxRecord} {
		for other := range 2 {
			room := 10 + framedBytes(size) + other
			d := newDisk(t, room)
			d.Append(3, strings.Repeat("x", other))
			j := newJournal(t, d)
			was := d.Copy()
			if size < api.MaxRecord {
				mustAnswer(t, "J3: no room for one byte more", j.Add(strings.Repeat("x", size+1)), api.ErrDiskFull)
			}
			mustStat(t, "R3", j, 1, 0, 10)
			mustBeSame(t, "R3", d, was)
			mustAnswer(t, "J3: a frame just fits", j.Add(strings.Repeat("x", size)), api.OK)
			mustStat(t, "J5", j, 1, 1, 10+framedBytes(size))
			mustAnswer(t, "J3: a full disk", j.Add(""), api.ErrDiskFull)
			mustStat(t, "R3", j, 1, 1, 10+framedBytes(size))
		}
	}
}

func framedBytes(size int) int { return 8 + size }

func TestCompact(t *testing.T) {
	d := newDisk(t, 1000)
	j := newJournal(t, d)
	file := 0
	for gen := 2; gen < 300; gen++ {
		snap := strings.Repeat("s", gen%7)
		j.Add("gone")
		if gen%2 == 0 {
			j.Sync()
		}
		mustAnswer(t, "J4: Compact", j.Compact(snap), api.OK)
		file = 1 - file
		want := framed(head(gen, snap))
		mustHave(t, "J4: the other file, safe", d, file, want, len(want))
		mustHave(t, "J4: the file that held", d, 1-file, "", 0)
		mustStat(t, "P6.4", j, gen, 0, len(want))
		d2 := d.Copy()
		d2.Crash(0)
		mustOpen(t, "P6.4", d2, snap)
		if gen%3 == 0 {
			j = mustOpen(t, "P6.4", d, snap)
		}
	}
	mustAnswer(t, "J3", j.Add("a"), api.OK)
	mustOpen(t, "J3: Add behind Compact", d, strings.Repeat("s", 299%7), "a")
}

func TestCompactTooLong(t *testing.T) {
	for _, room := range []int{40, api.MaxRoom} { // ErrLong is named first
		d := newDisk(t, room)
		j := newJournal(t, d)
		j.Add("a")
		j.Sync()
		j.Add("b")
		was := d.Copy()
		for _, size := range []int{api.MaxSnap + 1, api.MaxFrame, api.MaxFrame + 1} {
			mustAnswer(t, "J4: too long", j.Compact(strings.Repeat("x", size)), api.ErrLong)
		}
		mustStat(t, "R3", j, 1, 2, 28)
		mustBeSame(t, "R3", d, was)
	}
	d := newDisk(t, api.MaxRoom)
	j := newJournal(t, d)
	snap := strings.Repeat("s", api.MaxSnap)
	mustAnswer(t, "J4: the longest snapshot", j.Compact(snap), api.OK)
	mustStat(t, "J5", j, 2, 0, api.MaxSnap+10)
	mustAnswer(t, "J4: the longest snapshot again", j.Compact(snap), api.OK)
	mustOpen(t, "J4", d, snap)
}

func TestCompactAtTheGreatestGeneration(t *testing.T) {
	for _, room := range []int{20, 1000} {
		d := newDisk(t, room)
		d.Append(0, framed(head(api.MaxNum, "z")))
		j := mustOpen(t, "J2", d, "z")
		was := d.Copy()
		mustAnswer(t, "J4: the generation 2^50", j.Compact(""), api.ErrLong)
		mustStat(t, "R3", j, api.MaxNum, 0, 18)
		mustBeSame(t, "R3", d, was)
	}
	d := filled(t, "", framed(head(api.MaxNum-1, "z"), "a"))
	j := mustOpen(t, "J2", d, "z", "a")
	mustAnswer(t, "J4: the generation below 2^50", j.Compact("y"), api.OK)
	mustStat(t, "J5", j, api.MaxNum, 0, 18)
	mustAnswer(t, "J4: the generation 2^50", j.Compact("x"), api.ErrLong)
	mustAnswer(t, "J3: Add at the generation 2^50", j.Add("b"), api.OK)
	mustOpen(t, "J2", d, "y", "b")
}

func TestCompactRoom(t *testing.T) {
	for _, record := range []string{"", "abc"} {
		for _, snap := range []string{"s", strings.Repeat("s", 500)} {
			for other := range 2 {
				d := newDisk(t, 10+framedBytes(len(record))+10+len(snap)+other)
				d.Append(2, strings.Repeat("x", other))
				j := newJournal(t, d)
				mustAnswer(t, "J3", j.Add(record), api.OK)
				was := d.Copy()
				mustAnswer(t, "J4: no room for one byte more", j.Compact(snap+"t"), api.ErrDiskFull)
				mustStat(t, "R3", j, 1, 1, 10+framedBytes(len(record)))
				mustBeSame(t, "R3", d, was)
				mustAnswer(t, "J4: a head just fits", j.Compact(snap), api.OK)
				mustStat(t, "J5", j, 2, 0, 10+len(snap))
				mustHave(t, "the files 2 and 3 are never touched", d, 2, strings.Repeat("x", other), 0)
			}
		}
	}
}

// A head grows by a byte where its generation does.
func TestCompactRoomOfALongerNumber(t *testing.T) {
	for _, c := range []struct {
		gen  int
		want api.Errno
	}{{126, api.OK}, {127, api.ErrDiskFull}} {
		d := newDisk(t, 20)
		d.Append(0, framed(head(c.gen, "")))
		j := mustOpen(t, "J2", d, "")
		mustAnswer(t, "J4", j.Compact(""), c.want)
	}
}

func TestOtherFilesStay(t *testing.T) {
	d := newDisk(t, 1000)
	d.Append(2, "two")
	d.Sync(2)
	d.Append(2, "more")
	d.Append(3, "three")
	j := newJournal(t, d)
	for _, call := range []func() api.Errno{
		func() api.Errno { return j.Add("a") },
		j.Sync,
		func() api.Errno { return j.Compact("s") },
		j.Sync,
		func() api.Errno { return j.Add("b") },
	} {
		mustAnswer(t, "J3, J4", call(), api.OK)
		mustHave(t, "the files 2 and 3 are never touched", d, 2, "twomore", 3)
		mustHave(t, "the files 2 and 3 are never touched", d, 3, "three", 0)
	}
}

func TestJournalsOnOtherDisks(t *testing.T) {
	d1, d2 := newDisk(t, 100), newDisk(t, 100)
	j1, j2 := newJournal(t, d1), newJournal(t, d2)
	j1.Add("one")
	j2.Compact("two")
	mustStat(t, "R5", j1, 1, 1, 21)
	mustStat(t, "R5", j2, 2, 0, 13)
	_, _, records, _ := Open(d1)
	records[0] = "changed"
	_ = append(records, "more")
	mustOpen(t, "R5", d1, "", "one")
}
