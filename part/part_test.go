package part

import (
	"math"
	"slices"
	"testing"

	"odyssey/api"
	"odyssey/codec"
	"odyssey/journal"
)

func form(t *testing.T, l api.Letter) string {
	t.Helper()
	s, err := codec.Letter(l)
	if err != api.OK {
		t.Fatalf("codec.Letter(%v) = %d", l, err)
	}
	return s
}

func mustNew(t *testing.T, number, room int) *Part {
	t.Helper()
	p, err := New(number, room)
	if p == nil || err != api.OK {
		t.Fatalf("N1: New(%d, %d) = %d", number, room, err)
	}
	return p
}

func mustDeliver(t *testing.T, what string, p *Part, letter string, yes bool) {
	t.Helper()
	if err := p.Deliver(letter, yes); err != api.OK {
		t.Errorf("%s: Deliver(%q, %t) = %d, want OK", what, letter, yes, err)
	}
}

// mustEvents holds events against their forms.
func mustEvents(t *testing.T, what string, events []api.Event, want ...string) {
	t.Helper()
	var forms []string
	for _, e := range events {
		forms = append(forms, formOf(e))
	}
	if !slices.Equal(forms, want) {
		t.Errorf("%s: the events %q, want %q", what, forms, want)
	}
}

func mustSync(t *testing.T, what string, p *Part, replies []string, events ...string) {
	t.Helper()
	told, made := p.Sync()
	if !slices.Equal(told, replies) {
		t.Errorf("%s: the replies %q, want %q", what, told, replies)
	}
	mustEvents(t, what, made, events...)
}

func mustCrash(t *testing.T, what string, p *Part, keep int, events ...string) {
	t.Helper()
	told, err := p.Crash(keep)
	if err != api.OK || p.Up() {
		t.Errorf("%s: Crash(%d) = %d, Up() = %t", what, keep, err, p.Up())
	}
	mustEvents(t, what, told, events...)
}

func mustRestart(t *testing.T, what string, p *Part, ledger ...string) {
	t.Helper()
	if err := p.Restart(); err != api.OK || !p.Up() {
		t.Errorf("%s: Restart = %d, Up() = %t", what, err, p.Up())
	}
	mustEvents(t, what, p.Ledger(), ledger...)
}

func mustCompact(t *testing.T, what string, p *Part, want api.Errno) {
	t.Helper()
	if err := p.Compact(); err != want {
		t.Errorf("%s: Compact = %d, want %d", what, err, want)
	}
}

// What goes to and comes from the node 1, of the instance 5, as chapter 7 writes it.
const (
	do       = "L\x01\x01\x05\x00\x01\x01\x04room"
	undo     = "L\x02\x01\x05\x00"
	free     = "L\x03\x01\x05"
	done     = "L\x04\x01\x05\x00"
	undone   = "L\x07\x01\x05\x00"
	again    = "L\x08\x01\x05\x00"
	freed    = "L\x09\x01\x05"
	didDo    = "E\x01\x05\x00\x01\x04room"
	didBare  = "E\x01\x05\x00\x00" // behind the EventFree
	didUndo  = "E\x05\x05\x00"
	didFree  = "E\x06\x05"
	busyDo   = "L\x01\x01\x06\x02\x01\x01\x04room"
	busy     = "L\x06\x01\x06\x02"
	wasBusy  = "E\x03\x06\x02"
	frameAll = frameBytes + len(didDo)
)

func TestExamples(t *testing.T) {
	p := mustNew(t, 1, 1000)
	mustDeliver(t, "N2", p, do, true)
	mustSync(t, "N3", p, []string{done}, didDo)
	mustDeliver(t, "N2", p, do, false)
	mustSync(t, "N3", p, []string{done})
	mustDeliver(t, "N2", p, undo, true)
	mustCrash(t, "N4", p, 0)
	mustRestart(t, "N5", p, didDo)
	mustDeliver(t, "N2", p, undo, true)
	mustCrash(t, "N4", p, 1000, didUndo)
	mustRestart(t, "N5", p, didDo, didUndo)
	for _, letter := range []string{form(t, api.Letter{Kind: api.LetterUndo, Part: 2, Inst: 5}), "x"} {
		if err := p.Deliver(letter, true); err != api.ErrArg {
			t.Errorf("N2: Deliver(%q) = %d, want ErrArg", letter, err)
		}
	}
	if err := p.Restart(); err != api.ErrArg {
		t.Errorf("N5: Restart of what is up = %d, want ErrArg", err)
	}
	mustCrash(t, "N4", p, 0)
	mustBeDown(t, p)
}

// mustBeDown asks all that a node that is down refuses.
func mustBeDown(t *testing.T, p *Part) {
	t.Helper()
	if events, err := p.Crash(0); len(events) > 0 || err != api.ErrDown {
		t.Errorf("N4: Crash of what is down = %v, %d", events, err)
	}
	// ErrDown comes ahead of what is wrong with the letter.
	for _, letter := range []string{do, "x", "", done} {
		if err := p.Deliver(letter, true); err != api.ErrDown {
			t.Errorf("N2: Deliver(%q) to what is down = %d", letter, err)
		}
	}
	mustCompact(t, "N6", p, api.ErrDown)
	mustSync(t, "N3", p, nil)
	if p.Up() {
		t.Error("N7: it is up")
	}
	mustEvents(t, "N7", p.Ledger())
}

func TestNew(t *testing.T) {
	for number := range api.Parts {
		for _, room := range []int{10, 11, 400, api.MaxRoom} {
			p := mustNew(t, number, room)
			if !p.Up() {
				t.Error("N1: it is down")
			}
			mustEvents(t, "N1", p.Ledger())
			mustSync(t, "N1", p, nil)
			d := p.Disk()
			size, safe, _ := d.Size(0)
			if d.Room() != room || d.Used() != headBytes || size != headBytes || safe != headBytes {
				t.Errorf("N1: the disk has %d of %d bytes, and of the file 0 %d are safe", d.Used(), d.Room(), safe)
			}
			mustCrash(t, "N1", p, 0)
			mustRestart(t, "N1", p)
		}
	}
}

func TestNewRefused(t *testing.T) {
	for _, c := range []struct {
		number, room int
		want         api.Errno
	}{
		{-1, 1000, api.ErrArg}, {4, 1000, api.ErrArg}, {math.MinInt, 1000, api.ErrArg}, {math.MaxInt, 1000, api.ErrArg}, {1 << 32, 1000, api.ErrArg},
		{0, 0, api.ErrArg}, {0, -1, api.ErrArg}, {3, api.MaxRoom + 1, api.ErrArg}, {0, math.MinInt, api.ErrArg}, {0, math.MaxInt, api.ErrArg},
		{0, 1, api.ErrDiskFull}, {3, 9, api.ErrDiskFull},
		// That the number is wrong comes ahead of what the disk has no room for.
		{4, 9, api.ErrArg}, {-1, 0, api.ErrArg},
	} {
		if p, err := New(c.number, c.room); p != nil || err != c.want {
			t.Errorf("N1: New(%d, %d) = %v, %d, want %d", c.number, c.room, p, err, c.want)
		}
	}
}

func TestLettersThatAreRefused(t *testing.T) {
	p := mustNew(t, 1, 1000)
	mustDeliver(t, "N2", p, do, true)
	refused := []string{"", "x", "L", do + "x", do[:len(do)-1], didDo, "N\x03\x05", "L\x02\x01\x00\x00", "L\x02\x01\x3d\x00", "L\x02\x01\x05\x08", "\xff", "L\x0a\x01\x05\x00"}
	for _, part := range []int{0, 2, 3} {
		for kind := api.LetterDo; kind <= api.LetterFreed; kind++ {
			l := api.Letter{Kind: kind, Part: part, Inst: 5}
			if kind == api.LetterDo {
				l.Sort = api.Pivot
			}
			refused = append(refused, form(t, l))
		}
	}
	for kind := api.LetterDone; kind <= api.LetterFreed; kind++ {
		refused = append(refused, form(t, api.Letter{Kind: kind, Part: 1, Inst: 5}))
	}
	for _, letter := range refused {
		for _, yes := range []bool{true, false} {
			if err := p.Deliver(letter, yes); err != api.ErrArg {
				t.Errorf("N2: Deliver(%q, %t) = %d, want ErrArg", letter, yes, err)
			}
		}
	}
	mustEvents(t, "R3", p.Ledger(), didDo)
	mustSync(t, "R3", p, []string{done}, didDo)
}

// TestEachNumber: a node takes the letters of its own number.
func TestEachNumber(t *testing.T) {
	for number := range api.Parts {
		p := mustNew(t, number, 1000)
		for part := range api.Parts {
			want := api.ErrArg
			if part == number {
				want = api.OK
			}
			if err := p.Deliver(form(t, api.Letter{Kind: api.LetterFree, Part: part, Inst: 9}), true); err != want {
				t.Errorf("N2: Deliver of a letter of %d to %d = %d, want %d", part, number, err, want)
			}
		}
		mustSync(t, "N2", p, []string{form(t, api.Letter{Kind: api.LetterFreed, Part: number, Inst: 9})}, "E\x06\x09")
	}
}

// TestTheOrderOfWhatWaits: replies and events in the order in which they came; Ledger tells at once what is not safe yet.
func TestTheOrderOfWhatWaits(t *testing.T) {
	p := mustNew(t, 1, 1000)
	mustDeliver(t, "N2", p, do, true)
	mustDeliver(t, "N2", p, busyDo, true)
	mustDeliver(t, "N2", p, undo, false)
	mustDeliver(t, "N2", p, do, false)
	mustDeliver(t, "N2", p, undo, true)
	mustEvents(t, "N7", p.Ledger(), didDo, didUndo, wasBusy)
	mustDeliver(t, "N2", p, free, false)
	mustEvents(t, "N7", p.Ledger(), didBare, didUndo, didFree, wasBusy)
	mustDeliver(t, "N2", p, free, true)
	mustSync(t, "N3", p, []string{done, busy, again, done, undone, freed, freed}, didDo, wasBusy, didUndo, didFree)
	mustSync(t, "N3", p, nil)
	mustCrash(t, "P18.2", p, math.MaxInt)
	mustRestart(t, "P18.2", p, didBare, didUndo, didFree, wasBusy)
	mustSync(t, "N5", p, nil)
}

// TestADiskThatIsFull: what can't be recorded has not happened, and is not answered.
func TestADiskThatIsFull(t *testing.T) {
	p := mustNew(t, 1, headBytes+frameAll)
	mustDeliver(t, "N2", p, do, true)
	for _, letter := range []string{undo, free, busyDo} {
		if err := p.Deliver(letter, true); err != api.ErrDiskFull {
			t.Errorf("N2: Deliver(%q) = %d, want ErrDiskFull", letter, err)
		}
	}
	mustEvents(t, "N2", p.Ledger(), didDo)
	// What has no event needs no room.
	mustDeliver(t, "N2", p, do, false)
	mustDeliver(t, "N2", p, undo, false)
	mustCompact(t, "N6", p, api.ErrPartQueue)
	mustSync(t, "N2", p, []string{done, done, again}, didDo)
	before := fileOf(t, p)
	mustCompact(t, "N6", p, api.ErrDiskFull)
	if after := fileOf(t, p); after != before {
		t.Errorf("N6: a Compact that is refused changed %q to %q", before, after)
	}
	mustEvents(t, "N6", p.Ledger(), didDo)
	mustCrash(t, "N6", p, 0)
	mustRestart(t, "N6", p, didDo)
	// One byte less, and not even the first one is recorded.
	p = mustNew(t, 1, headBytes+frameAll-1)
	if err := p.Deliver(do, true); err != api.ErrDiskFull {
		t.Errorf("N2: Deliver = %d, want ErrDiskFull", err)
	}
	mustSync(t, "N2", p, nil)
	mustEvents(t, "N2", p.Ledger())
}

// fileOf is what stands in the journal's two files.
func fileOf(t *testing.T, p *Part) [2]string {
	t.Helper()
	d := p.Disk()
	a, _ := d.Read(0)
	b, _ := d.Read(1)
	return [2]string{a, b}
}

// TestCrashKeepsWholeFrames: of three events that wait, by the number of bytes that stay.
func TestCrashKeepsWholeFrames(t *testing.T) {
	sizes := []int{frameBytes + len(didDo), frameBytes + len(wasBusy), frameBytes + len(didUndo)}
	all := []string{didDo, wasBusy, didUndo}
	ledgers := [][]string{nil, {didDo}, {didDo, wasBusy}, {didDo, didUndo, wasBusy}}
	for _, first := range []bool{false, true} {
		for keep := -1; keep <= sizes[0]+sizes[1]+sizes[2]+1; keep++ {
			p := mustNew(t, 1, 1000)
			if first {
				mustDeliver(t, "N2", p, form(t, api.Letter{Kind: api.LetterFree, Part: 1, Inst: 60}), true)
				p.Sync()
			}
			mustDeliver(t, "N2", p, do, true)
			mustDeliver(t, "N2", p, busyDo, true)
			mustDeliver(t, "N2", p, undo, true)
			whole, left := 0, keep
			for whole < len(sizes) && left >= sizes[whole] {
				left -= sizes[whole]
				whole++
			}
			mustCrash(t, "N4", p, keep, all[:whole]...)
			want := slices.Clone(ledgers[whole])
			if first {
				want = append(want, "E\x06\x3c")
			}
			mustRestart(t, "N5", p, want...)
			mustSync(t, "N4", p, nil)
		}
	}
	for _, keep := range []int{math.MinInt, math.MaxInt} {
		p := mustNew(t, 1, 1000)
		mustDeliver(t, "N2", p, do, true)
		want := all[:0]
		if keep > 0 {
			want = all[:1]
		}
		mustCrash(t, "N4", p, keep, want...)
		mustRestart(t, "N5", p, want...)
	}
}

// TestTornBytesStandTillTheRestart: of a node that is down Disk tells what the crash left.
func TestTornBytesStandTillTheRestart(t *testing.T) {
	p := mustNew(t, 1, 1000)
	mustDeliver(t, "N2", p, do, true)
	mustCrash(t, "N4", p, frameAll-1)
	if used := p.Disk().Used(); used != headBytes+frameAll-1 {
		t.Errorf("N4: the disk has %d bytes, want %d", used, headBytes+frameAll-1)
	}
	mustBeDown(t, p)
	mustRestart(t, "N5", p)
	if used := p.Disk().Used(); used != headBytes {
		t.Errorf("N5: the disk has %d bytes, want %d", used, headBytes)
	}
	mustDeliver(t, "N5", p, do, true)
	mustSync(t, "N5", p, []string{done}, didDo)
}

func TestCompact(t *testing.T) {
	p := mustNew(t, 1, 1000)
	// Of no events the list has one byte; it is another snapshot than the empty one.
	mustCompact(t, "N6", p, api.OK)
	mustSnapshot(t, p, "\x00")
	mustCrash(t, "N5", p, 0)
	mustRestart(t, "N5", p)
	mustDeliver(t, "N2", p, busyDo, false)
	mustDeliver(t, "N2", p, do, true)
	mustDeliver(t, "N2", p, undo, true)
	mustCompact(t, "N6", p, api.ErrPartQueue)
	p.Sync()
	// A reply alone waits, too.
	mustDeliver(t, "N2", p, do, true)
	mustCompact(t, "N6", p, api.ErrPartQueue)
	p.Sync()
	mustCompact(t, "N6", p, api.OK)
	mustSnapshot(t, p, "\x03\x0a"+didDo+"\x04"+didUndo+"\x04"+"E\x02\x06\x02")
	mustDeliver(t, "N6", p, free, true)
	mustSync(t, "N6", p, []string{freed}, didFree)
	mustSnapshot(t, p, "\x03\x0a"+didDo+"\x04"+didUndo+"\x04"+"E\x02\x06\x02", didFree)
	mustCrash(t, "P18.4", p, 0)
	mustRestart(t, "P18.4", p, didBare, didUndo, didFree, "E\x02\x06\x02")
	mustCompact(t, "P18.4", p, api.OK)
	mustCompact(t, "P18.4", p, api.OK)
	mustSnapshot(t, p, "\x04\x05"+didBare+"\x04"+didUndo+"\x03"+didFree+"\x04"+"E\x02\x06\x02")
}

// mustSnapshot opens a copy of the node's disk.
func mustSnapshot(t *testing.T, p *Part, want string, records ...string) {
	t.Helper()
	_, snap, left, err := journal.Open(p.Disk())
	if snap != want || !slices.Equal(left, records) || err != api.OK {
		t.Errorf("N6: the journal has %q and %q, %d, want %q and %q", snap, left, err, want, records)
	}
}

// TestAllThatThereIs: each step of each instance done and undone, with the longest keys; the list has more than 127 events.
func TestAllThatThereIs(t *testing.T) {
	p := mustNew(t, 3, api.MaxRoom)
	keyOf := func(first rune, inst, step int) string {
		return string([]rune{first, 'α' + rune(inst%16), 'α' + rune(inst/16), 'α' + rune(step), 'α', 'α', 'α', 'α'})
	}
	for inst := 1; inst <= api.MaxInst; inst++ {
		for step := range api.MaxSteps {
			l := api.Letter{Kind: api.LetterDo, Part: 3, Inst: inst, Step: step, Sort: api.Pivot}
			l.Keys = []string{keyOf('α', inst, step), keyOf('ω', inst, step)}
			mustDeliver(t, "N2", p, form(t, l), true)
			mustDeliver(t, "N2", p, form(t, api.Letter{Kind: api.LetterUndo, Part: 3, Inst: inst, Step: step}), true)
		}
	}
	p.Sync()
	before := p.Ledger()
	if len(before) != api.MaxInst*api.MaxSteps*2 {
		t.Fatalf("N7: %d events", len(before))
	}
	mustCompact(t, "N6", p, api.OK)
	mustCrash(t, "N6", p, 0)
	if err := p.Restart(); err != api.OK || !alikeEvents(p.Ledger(), before) {
		t.Errorf("N6: Restart = %d, and the ledger is another one", err)
	}
}

// TestApart: P18.5, two letters of unlike instances in either order.
func TestApart(t *testing.T) {
	m := made(185)
	letter := func(inst int, keys ...string) string {
		l := api.Letter{Kind: api.LetterDo, Inst: inst, Step: m.below(3), Sort: 1 + m.below(3)}
		switch m.below(4) {
		case 0:
			l = api.Letter{Kind: api.LetterFree, Inst: inst}
		case 1:
			l = api.Letter{Kind: api.LetterUndo, Inst: inst, Step: l.Step}
		default:
			l.Keys = keys[:m.below(3)]
		}
		return form(t, l)
	}
	for range 3000 {
		one, two := mustNew(t, 0, 1000), mustNew(t, 0, 1000)
		for range m.below(6) {
			letter := []string{letter(1, "a", "b"), letter(2, "y", "z")}[m.below(2)]
			one.Deliver(letter, true)
			two.Deliver(letter, true)
		}
		one.Sync()
		two.Sync()
		a, b := letter(1, "a", "b"), letter(2, "y", "z")
		yesA, yesB := m.below(2) == 0, m.below(2) == 0
		mustDeliver(t, "P18.5", one, a, yesA)
		mustDeliver(t, "P18.5", one, b, yesB)
		mustDeliver(t, "P18.5", two, b, yesB)
		mustDeliver(t, "P18.5", two, a, yesA)
		repliesOne, _ := one.Sync()
		repliesTwo, _ := two.Sync()
		slices.Reverse(repliesTwo)
		if !alikeEvents(one.Ledger(), two.Ledger()) || !slices.Equal(repliesOne, repliesTwo) {
			t.Fatalf("P18.5: %q and %q: Ledgers %v and %v, replies %q and %q", a, b, one.Ledger(), two.Ledger(), repliesOne, repliesTwo)
		}
	}
}

// TestAnswersAreNew: R5 of what Sync, Crash, Ledger and Disk answer, their spare room too.
func TestAnswersAreNew(t *testing.T) {
	spoil := func(events []api.Event) {
		for i := range events[:cap(events)] {
			keys := events[:cap(events)][i].Keys
			for k := range keys[:cap(keys)] {
				keys[:cap(keys)][k] = "spoilt"
			}
			events[:cap(events)][i] = api.Event{}
		}
	}
	p := mustNew(t, 1, 1000)
	mustDeliver(t, "N2", p, do, true)
	one, two := p.Ledger(), p.Ledger()
	spoil(one)
	mustEvents(t, "R5", two, didDo)
	mustEvents(t, "R5", p.Ledger(), didDo)
	replies, events := p.Sync()
	spoil(events)
	for i := range replies[:cap(replies)] {
		replies[:cap(replies)][i] = "spoilt"
	}
	mustEvents(t, "R5", p.Ledger(), didDo)
	mustDeliver(t, "R5", p, undo, true)
	mustDeliver(t, "R5", p, busyDo, true)
	d := p.Disk()
	d.Cut(0, 0)
	d.Append(1, "spoilt")
	told, _ := p.Crash(frameBytes + len(didUndo))
	mustEvents(t, "R5", told, didUndo)
	spoil(told)
	mustRestart(t, "R5", p, didDo, didUndo)
	p.Disk().Crash(0)
	mustDeliver(t, "R5", p, busyDo, true)
	d = p.Disk()
	mustSync(t, "R5", p, []string{busy}, wasBusy)
	if size, safe, _ := d.Size(0); size != headBytes+frameBytes*3+len(didDo+didUndo+wasBusy) || safe == size {
		t.Errorf("R5: Sync changed a disk that was handed out: %d bytes, %d safe", size, safe)
	}
	mustEvents(t, "R5", two, didDo)
}

// TestWhatWasToldStays: R5: what is told later is told in other memory.
func TestWhatWasToldStays(t *testing.T) {
	p := mustNew(t, 1, 1000)
	mustDeliver(t, "N2", p, do, true)
	replies, events := p.Sync()
	mustDeliver(t, "N2", p, undo, true)
	later, _ := p.Sync()
	mustDeliver(t, "N2", p, busyDo, true)
	told, _ := p.Crash(1000)
	mustRestart(t, "N5", p, didDo, didUndo, wasBusy)
	mustDeliver(t, "N2", p, free, true)
	p.Sync()
	if !slices.Equal(replies, []string{done}) || !slices.Equal(later, []string{undone}) {
		t.Errorf("R5: the replies that were told are %q and %q now", replies, later)
	}
	mustEvents(t, "R5", events, didDo)
	mustEvents(t, "R5", told, wasBusy)
}

// TestSpareRoom: R5: nobody writes into what waits by the spare room of what was told.
func TestSpareRoom(t *testing.T) {
	p := mustNew(t, 1, 1000)
	for _, letter := range []string{do, busyDo, undo} {
		mustDeliver(t, "N2", p, letter, true)
	}
	replies, events := p.Sync()
	mustDeliver(t, "N2", p, free, true)
	for i := range replies[:cap(replies)] {
		replies[:cap(replies)][i] = "spoilt"
	}
	for i := range events[:cap(events)] {
		events[:cap(events)][i] = api.Event{}
	}
	mustSync(t, "R5", p, []string{freed}, didFree)
}

// TestObjects: R5: nodes know nothing of one another.
func TestObjects(t *testing.T) {
	a, b := mustNew(t, 1, 1000), mustNew(t, 1, 1000)
	mustDeliver(t, "N2", a, do, true)
	mustEvents(t, "R5", b.Ledger())
	mustSync(t, "R5", b, nil)
	mustCrash(t, "R5", b, 0)
	mustRestart(t, "R5", b)
	mustDeliver(t, "R5", b, busyDo, true)
	mustSync(t, "R5", a, []string{done}, didDo)
	mustSync(t, "R5", b, []string{"L\x04\x01\x06\x02"}, "E\x01\x06\x02\x01\x04room")
}
