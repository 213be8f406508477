package journal

import (
	"fmt"
	"slices"
	"strings"
	"testing"

	"odyssey/api"
	"odyssey/disk"
)

// dice gives the same row of numbers in each run.
type dice uint32

func (d *dice) below(n int) int {
	*d = *d*1664525 + 1013904223
	return int(*d>>8) % n
}

// likeness is what a journal should be: its last snapshot, the records behind it, how many of them are safe.
type likeness struct {
	gen     int
	snap    string
	records []string
	safe    int
}

func (l *likeness) size() int {
	return len(framed(head(l.gen, l.snap))) + len(framed(l.records...))
}

// step does one call on both, and holds the answers against each other.
func (l *likeness) step(t *testing.T, roll *dice, d *disk.Disk, j *Journal) {
	t.Helper()
	left := d.Room() - d.Used()
	text := strings.Repeat(string(rune('a'+roll.below(26))), roll.below(12))
	switch roll.below(6) {
	case 0, 1, 2:
		want := api.OK
		if len(framed(text)) > left {
			want = api.ErrDiskFull
		} else {
			l.records = append(l.records, text)
		}
		mustAnswer(t, "J3: Add", j.Add(text), want)
	case 3, 4:
		l.safe = len(l.records)
		mustAnswer(t, "J3: Sync", j.Sync(), api.OK)
	case 5:
		want := api.OK
		if len(framed(head(l.gen+1, text))) > left {
			want = api.ErrDiskFull
		} else {
			*l = likeness{gen: l.gen + 1, snap: text}
		}
		mustAnswer(t, "J4: Compact", j.Compact(text), want)
	}
	mustStat(t, "J5", j, l.gen, len(l.records), l.size())
}

// kept tells how many records are left behind a crash that keeps so many bytes.
func (l *likeness) kept(keep int) int {
	count := l.safe
	for _, record := range l.records[l.safe:] {
		keep -= len(framed(record))
		if keep < 0 {
			break
		}
		count++
	}
	return count
}

// crash opens copies of the disk behind crashes with all keeps that differ.
func (l *likeness) crash(t *testing.T, d *disk.Disk) {
	t.Helper()
	_, safe, _ := d.Size(0)
	_, alsoSafe, _ := d.Size(1)
	loose := d.Used() - safe - alsoSafe
	before := 0
	for keep := -1; keep <= loose+1; keep++ {
		copied := d.Copy()
		copied.Crash(keep)
		want := l.records[:l.kept(keep)]
		j := mustOpen(t, fmt.Sprintf("P6.1: a crash that keeps %d", keep), copied, l.snap, want...)
		_, count, size := j.Stat()
		if count < before {
			t.Errorf("P6.1: a crash that keeps %d leaves %d records, one that keeps less %d", keep, count, before)
		}
		before = count
		mustStat(t, "J5", j, l.gen, len(want), len(framed(head(l.gen, l.snap)))+len(framed(want...)))
		if used := copied.Used(); used != size {
			t.Errorf("J2: %d bytes are used, the file that holds has %d", used, size)
		}
		openAgain(t, copied, l.snap, want)
	}
	if before != len(l.records) {
		t.Errorf("P6.1: a crash that keeps all leaves %d records of %d", before, len(l.records))
	}
}

// openAgain opens a disk that was opened, with and without crashes between.
func openAgain(t *testing.T, d *disk.Disk, snap string, records []string) {
	t.Helper()
	was := d.Copy()
	mustOpen(t, "P6.2: again", d, snap, records...)
	for _, keep := range []int{-1, 0, 1, 9, api.MaxRoom} {
		d.Crash(keep)
		mustOpen(t, "P6.2: again behind a crash", d, snap, records...)
	}
	mustBeSame(t, "P6.2", d, was)
}

func TestRowsOfCalls(t *testing.T) {
	for seed := range 60 {
		roll := dice(seed)
		d := newDisk(t, 60+roll.below(200))
		j := newJournal(t, d)
		like := likeness{gen: 1}
		for range 40 {
			like.step(t, &roll, d, j)
			like.crash(t, d)
			if roll.below(8) == 0 {
				keep := roll.below(20)
				left := like.kept(keep)
				d.Crash(keep)
				like.records, like.safe = slices.Clone(like.records[:left]), left
				j = mustOpen(t, "P6.1", d, like.snap, like.records...)
			}
		}
	}
}

// piece is some of a file's bytes: if whole, the frame of this record; else bytes that begin with no frame.
type piece struct {
	bytes, record string
	whole         bool
}

func wholePiece(record string) piece { return piece{framed(record), record, true} }

func pieces() []piece {
	torn := framed("torn")
	return []piece{
		wholePiece(""),
		wholePiece("a"),
		wholePiece("H"),
		wholePiece("H\x00"),
		wholePiece("H\x01"),
		wholePiece("H\x02two"),
		wholePiece("H\xac\x02x"),
		wholePiece("H\x81\x00"),
		wholePiece(strings.Repeat("r", api.MaxRecord)),
		wholePiece(strings.Repeat("r", api.MaxRecord+1)),
		wholePiece("H\x03" + strings.Repeat("s", api.MaxRecord)),
		{bytes: "x"},
		{bytes: "\xa7"},
		{bytes: torn[:7] + "?" + torn[8:]},
	}
}

// heads are the generations and snapshots of those pieces that are heads.
func heads() map[string]likeness {
	return map[string]likeness{
		"H\x01":      {gen: 1},
		"H\x02two":   {gen: 2, snap: "two"},
		"H\xac\x02x": {gen: 300, snap: "x"},
		"H\x03" + strings.Repeat("s", api.MaxRecord): {gen: 3, snap: strings.Repeat("s", api.MaxRecord)},
	}
}

// someFile puts pieces one behind the other, a torn frame at their end at times; and what a journal finds there (gen 0: nothing).
func someFile(roll *dice) (string, likeness) {
	var like likeness
	bytes, all, reads := "", pieces(), true
	for i := range roll.below(6) {
		p := all[roll.below(len(all))]
		if i == 0 && roll.below(2) == 0 {
			p = all[4+roll.below(3)]
		}
		bytes += p.bytes
		switch h, isHead := heads()[p.record]; {
		case !reads || !p.whole:
			reads = false
		case i == 0:
			like, reads = h, isHead
		case len(p.record) > api.MaxRecord:
			reads = false
		default:
			like.records = append(like.records, p.record)
		}
	}
	if roll.below(2) == 0 {
		torn := framed("a torn end")
		bytes += torn[:roll.below(len(torn))]
	}
	return bytes, like
}

// someDisk has such files, with some of their bytes safe; and the likeness that should hold.
func someDisk(t *testing.T, roll *dice) (*disk.Disk, likeness, int) {
	t.Helper()
	d := newDisk(t, api.MaxRoom)
	var likes [2]likeness
	for file := range likes {
		var bytes string
		bytes, likes[file] = someFile(roll)
		safe := roll.below(len(bytes) + 1)
		d.Append(file, bytes[:safe])
		d.Sync(file)
		d.Append(file, bytes[safe:])
	}
	d.Append(2, "two")
	if likes[1].gen > likes[0].gen {
		return d, likes[1], 1
	}
	return d, likes[0], 0
}

func TestAnyBytes(t *testing.T) {
	opened := 0
	for seed := range 3000 {
		roll := dice(seed)
		d, like, file := someDisk(t, &roll)
		was := d.Copy()
		if like.gen == 0 {
			if j, snap, records, err := Open(d); j != nil || snap != "" || len(records) != 0 || err != api.ErrJournalNone {
				t.Errorf("P6.3: Open (%d) = %d, want ErrJournalNone", seed, err)
			}
			mustBeSame(t, "R3", d, was)
			continue
		}
		opened++
		j := mustOpen(t, fmt.Sprintf("P6.3 (%d)", seed), d, like.snap, like.records...)
		mustStat(t, "J5", j, like.gen, len(like.records), like.size())
		mustHave(t, "P6.3: all is safe", d, file, framed(head(like.gen, like.snap))+framed(like.records...), like.size())
		mustHave(t, "P6.3: the other one is empty", d, 1-file, "", 0)
		mustHave(t, "the files 2 and 3 are never touched", d, 2, "two", 0)
		d.Sync(2)
		openAgain(t, d, like.snap, like.records)
		mustAnswer(t, "J4", j.Compact("new"), api.OK)
		mustOpen(t, "P6.4", d, "new")
	}
	if opened < 500 {
		t.Errorf("P6.3: only %d of the disks were good", opened)
	}
}

// What chance lays has hardly a frame in it, but it must end and change nothing.
func TestChanceBytes(t *testing.T) {
	for seed := range 2000 {
		roll := dice(seed)
		bytes := make([]byte, roll.below(40))
		for i := range bytes {
			bytes[i] = []byte{167, 0, 1, 2, 'H', 255, 18}[roll.below(7)]
		}
		d := filled(t, string(bytes), framed("H\x05", string(bytes))+string(bytes))
		want := []string{string(bytes)}
		mustOpen(t, "P6.3", d, "", want...)
		openAgain(t, d, "", want)
	}
}
