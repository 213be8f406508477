package part

import (
	"reflect"
	"slices"
	"testing"

	"odyssey/api"
	"odyssey/codec"
	"odyssey/ledger"
)

// made is a row of numbers that follow a fixed rule.
type made uint64

func (m *made) below(n int) int {
	*m = *m*6364136223846793005 + 1442695040888963407
	return int(uint64(*m) >> 33 % uint64(n))
}

const (
	frameBytes = 8 // what a frame has beside its record
	headBytes  = frameBytes + 2
)

// slow is a node by its definition: the events that are safe and those that wait, as texts, and how many bytes all have on the disk.
type slow struct {
	number, room int
	down         bool
	events       []api.Event // all that are safe
	waits        []api.Event
	replies      []string
	safe, unsafe int // bytes
}

func newSlow(number, room int) *slow {
	return &slow{number: number, room: room, safe: headBytes}
}

// ledger is what all events make.
func (s *slow) ledger() *ledger.Ledger {
	g := ledger.New()
	for _, e := range append(slices.Clone(s.events), s.waits...) {
		g.Apply(e)
	}
	return g
}

func (s *slow) deliver(letter string, yes bool) api.Errno {
	if s.down {
		return api.ErrDown
	}
	l, err := codec.ReadLetter(letter)
	if err != api.OK || l.Part != s.number {
		return api.ErrArg
	}
	e, reply, err := s.ledger().Ask(l, yes)
	if err != api.OK {
		return api.ErrArg
	}
	if e.Kind != 0 {
		size := frameBytes + len(formOf(e))
		if s.safe+s.unsafe+size > s.room {
			return api.ErrDiskFull
		}
		s.unsafe += size
		s.waits = append(s.waits, e)
	}
	form, _ := codec.Letter(reply)
	s.replies = append(s.replies, form)
	return api.OK
}

func (s *slow) sync() ([]string, []api.Event) {
	if s.down {
		return nil, nil
	}
	replies, events := s.replies, s.waits
	s.events = append(s.events, s.waits...)
	s.safe, s.unsafe = s.safe+s.unsafe, 0
	s.replies, s.waits = nil, nil
	return replies, events
}

// crash leaves torn bytes on the disk, as far as they are kept; they are unsafe's till the restart.
func (s *slow) crash(keep int) ([]api.Event, api.Errno) {
	if s.down {
		return nil, api.ErrDown
	}
	left := min(max(keep, 0), s.unsafe)
	s.unsafe = left
	var whole []api.Event
	for _, e := range s.waits {
		size := frameBytes + len(formOf(e))
		if size > left {
			break
		}
		left -= size
		s.safe, s.unsafe = s.safe+size, s.unsafe-size
		whole = append(whole, e)
	}
	s.events = append(s.events, whole...)
	s.replies, s.waits, s.down = nil, nil, true
	return whole, api.OK
}

func (s *slow) restart() api.Errno {
	if !s.down {
		return api.ErrArg
	}
	s.down, s.unsafe = false, 0
	return api.OK
}

// compact is of short lists and of generations below 128 alone: a byte each.
func (s *slow) compact() api.Errno {
	switch {
	case s.down:
		return api.ErrDown
	case len(s.replies)+len(s.waits) > 0:
		return api.ErrPartQueue
	}
	size := headBytes + 1
	for _, e := range s.ledger().Events() {
		size += 1 + len(formOf(e))
	}
	if s.safe+size > s.room {
		return api.ErrDiskFull
	}
	s.safe = size
	return api.OK
}

func alikeEvents(a, b []api.Event) bool {
	return slices.EqualFunc(a, b, func(a, b api.Event) bool {
		return a.Kind == b.Kind && a.Inst == b.Inst && a.Step == b.Step && slices.Equal(a.Keys, b.Keys)
	})
}

// both are a node and its likeness, and what the node has told so far.
type both struct {
	t    *testing.T
	p    *Part
	s    *slow
	told []api.Event
}

func newBoth(t *testing.T, number, room int) *both {
	t.Helper()
	p, err := New(number, room)
	if p == nil || err != api.OK {
		t.Fatalf("N1: New(%d, %d) = %d", number, room, err)
	}
	return &both{t: t, p: p, s: newSlow(number, room)}
}

// hold holds all that the node tells of itself against its likeness.
func (b *both) hold(what string) {
	b.t.Helper()
	if b.p.Up() == b.s.down {
		b.t.Fatalf("N7: %s: Up() = %t", what, b.p.Up())
	}
	var want []api.Event
	if !b.s.down {
		want = b.s.ledger().Events()
	}
	if events := b.p.Ledger(); !alikeEvents(events, want) {
		b.t.Fatalf("N7: %s: Ledger %v, want %v", what, events, want)
	}
	d := b.p.Disk()
	if d.Used() != b.s.safe+b.s.unsafe || d.Room() != b.s.room {
		b.t.Fatalf("N7: %s: the disk has %d of %d bytes, want %d of %d", what, d.Used(), d.Room(), b.s.safe+b.s.unsafe, b.s.room)
	}
}

func (b *both) deliver(letter string, yes bool) api.Errno {
	b.t.Helper()
	err, want := b.p.Deliver(letter, yes), b.s.deliver(letter, yes)
	if err != want {
		b.t.Fatalf("N2: Deliver(%q, %t) = %d, want %d", letter, yes, err, want)
	}
	b.hold("Deliver")
	return err
}

func (b *both) sync() ([]string, []api.Event) {
	b.t.Helper()
	replies, events := b.p.Sync()
	wantReplies, wantEvents := b.s.sync()
	if !slices.Equal(replies, wantReplies) || !alikeEvents(events, wantEvents) {
		b.t.Fatalf("N3: Sync = %q, %v, want %q, %v", replies, events, wantReplies, wantEvents)
	}
	b.tell(events)
	b.hold("Sync")
	return replies, events
}

func (b *both) crash(keep int) []api.Event {
	b.t.Helper()
	events, err := b.p.Crash(keep)
	want, wantErr := b.s.crash(keep)
	if !alikeEvents(events, want) || err != wantErr {
		b.t.Fatalf("N4: Crash(%d) = %v, %d, want %v, %d", keep, events, err, want, wantErr)
	}
	b.tell(events)
	b.hold("Crash")
	return events
}

func (b *both) restart() {
	b.t.Helper()
	if err, want := b.p.Restart(), b.s.restart(); err != want {
		b.t.Fatalf("N5: Restart = %d, want %d", err, want)
	}
	b.hold("Restart")
}

func (b *both) compact() api.Errno {
	b.t.Helper()
	err, want := b.p.Compact(), b.s.compact()
	if err != want {
		b.t.Fatalf("N6: Compact = %d, want %d", err, want)
	}
	b.hold("Compact")
	return err
}

// tell is P18.3: no event is told twice.
func (b *both) tell(events []api.Event) {
	b.t.Helper()
	for _, e := range events {
		if slices.ContainsFunc(b.told, func(a api.Event) bool { return a.Kind == e.Kind && a.Inst == e.Inst && a.Step == e.Step }) {
			b.t.Fatalf("P18.3: %v is told twice", e)
		}
		b.told = append(b.told, e)
	}
}

// downAndUp is P18.1 and P18.4: a crash and a restart, a second one, and Compacts between change nothing but by what was never told.
func (b *both) downAndUp(keep int) {
	b.t.Helper()
	b.crash(keep)
	b.restart()
	g := ledger.New()
	for _, e := range b.told {
		if err := g.Apply(e); err != api.OK {
			b.t.Fatalf("P18.1: Apply(%v) = %d", e, err)
		}
	}
	want := g.Events()
	if events := b.p.Ledger(); !alikeEvents(events, want) {
		b.t.Fatalf("P18.1: Ledger %v, want %v of what was told", events, want)
	}
	b.compact()
	if events := b.crash(keep); len(events) > 0 {
		b.t.Fatalf("P18.2: a Crash where nothing waits tells %v", events)
	}
	b.restart()
	b.compact()
	b.compact()
	if events := b.p.Ledger(); !alikeEvents(events, want) {
		b.t.Fatalf("P18.4: Ledger %v, want %v", events, want)
	}
}

// twice is P18.3: the same letter, directly behind itself.
func (b *both) twice(letter string, yes bool) {
	b.t.Helper()
	b.sync()
	if b.deliver(letter, yes) != api.OK {
		return
	}
	first, _ := b.sync()
	reply, _ := codec.ReadLetter(first[0])
	for _, verdict := range []bool{yes, !yes} {
		b.deliver(letter, verdict)
		replies, events := b.sync()
		if reply.Kind != api.LetterAgain && (len(events) > 0 || !reflect.DeepEqual(replies, first)) {
			b.t.Fatalf("P18.3: a second Deliver(%q): %q and %v, want %q", letter, replies, events, first)
		}
	}
}

// TestEveryShortRow: all rows of five out of ten calls, on a disk that is soon full.
func TestEveryShortRow(t *testing.T) {
	const rowLength = 5
	do := form(t, api.Letter{Kind: api.LetterDo, Part: 2, Inst: 5, Sort: api.Compensatable, Keys: []string{"room"}})
	other := form(t, api.Letter{Kind: api.LetterDo, Part: 2, Inst: 6, Step: 1, Sort: api.Pivot, Keys: []string{"room"}})
	undo := form(t, api.Letter{Kind: api.LetterUndo, Part: 2, Inst: 5})
	free := form(t, api.Letter{Kind: api.LetterFree, Part: 2, Inst: 5})
	calls := []func(b *both){
		func(b *both) { b.deliver(do, true) },
		func(b *both) { b.deliver(other, true) },
		func(b *both) { b.deliver(undo, true) },
		func(b *both) { b.deliver(free, false) },
		func(b *both) { b.sync() },
		func(b *both) { b.crash(0) },
		func(b *both) { b.crash(25) },
		func(b *both) { b.crash(1000) },
		func(b *both) { b.restart() },
		func(b *both) { b.compact() },
	}
	rows := 1
	for range rowLength {
		rows *= len(calls)
	}
	for row := range rows {
		b := newBoth(t, 2, 64)
		for left, i := row, 0; i < rowLength; left, i = left/len(calls), i+1 {
			calls[left%len(calls)](b)
		}
	}
}

// letter is most often one that a node of that number takes.
func (m *made) letter(number int) string {
	l := api.Letter{Part: number, Inst: 1 + m.below(5)}
	switch m.below(8) {
	case 0:
		l.Kind = api.LetterFree
	case 1, 2:
		l.Kind, l.Step = api.LetterUndo, m.below(3)
	case 3:
		switch m.below(6) {
		case 0:
			l.Kind = api.LetterDone + m.below(5)
		case 1:
			l.Kind, l.Part = api.LetterFree, (number+1)%api.Parts
		case 2:
			return "x"
		default:
			l.Kind = api.LetterUndo
		}
	default:
		l.Kind, l.Step, l.Sort = api.LetterDo, m.below(3), 1+m.below(3)
		for _, key := range []string{"a", "room", "z", "ä"} {
			if len(l.Keys) < api.MaxKeys && m.below(4) == 0 {
				l.Keys = append(l.Keys, key)
			}
		}
	}
	s, _ := codec.Letter(l)
	return s
}

func (m *made) step(b *both) {
	switch m.below(16) {
	case 0, 1, 2:
		b.sync()
	case 3:
		b.crash(m.below(120) - 10)
	case 4, 5:
		b.restart()
	case 6:
		b.compact()
	case 7:
		if !b.s.down {
			b.downAndUp(m.below(80) - 5)
		}
	case 8:
		if !b.s.down {
			b.twice(m.letter(b.s.number), m.below(3) > 0)
		}
	default:
		b.deliver(m.letter(b.s.number), m.below(3) > 0)
	}
}

func TestLongRows(t *testing.T) {
	m, full := made(181), 0
	for range 400 {
		b := newBoth(t, m.below(api.Parts), 60+m.below(700))
		for range 100 {
			m.step(b)
		}
		if b.s.safe+b.s.unsafe+frameBytes > b.s.room {
			full++
		}
	}
	if full < 10 {
		t.Errorf("%d disks were full only", full)
	}
}
