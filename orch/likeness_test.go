package orch

import (
	"fmt"
	"reflect"
	"slices"
	"testing"

	"odyssey/api"
	"odyssey/check"
	"odyssey/codec"
	"odyssey/cost"
	"odyssey/def"
	"odyssey/name"
	"odyssey/pack"
	"odyssey/phase"
)

// made is a row of numbers that follow a fixed rule.
type made uint64

func (m *made) below(n int) int {
	*m = *m*6364136223846793005 + 1442695040888963407
	return int(uint64(*m) >> 33 % uint64(n))
}

func (m *made) one(of ...string) string { return of[m.below(len(of))] }

const (
	frameBytes = 8 // what a frame has beside its record
	headBytes  = frameBytes + 2
)

// slow follows the chapter's words. What it knows it makes of the notes that were told ever, and of those that wait; of the disk it counts bytes alone.
type slow struct {
	c            api.Config
	down         bool
	told         []api.Note
	notes        []api.Note // that wait, as replies and letters do
	replies      []api.Reply
	letters      []string
	gen          int
	safe, unsafe int // bytes
	now          int
	waits        map[int]*timer
	known        []api.Def
	versions     []int
	insts        []api.Inst
	refused      int // notes for which there was no room
}

// timer is how an instance waits that is open.
type timer struct {
	tries, again, late int
	wasLate            bool
}

func newSlow(c api.Config) *slow {
	return &slow{c: c, gen: 1, safe: headBytes, waits: map[int]*timer{}}
}

func noteForm(n api.Note) string {
	form, err := codec.Note(n)
	if err != api.OK {
		panic(fmt.Sprintf("codec.Note(%v) = %d", n, err))
	}
	return form
}

func (s *slow) note(n api.Note) bool {
	size := frameBytes + len(noteForm(n))
	if s.safe+s.unsafe+size > s.c.Rooms[4] {
		s.refused++
		return false
	}
	s.unsafe += size
	s.notes = append(s.notes, n)
	s.happen(n)
	return true
}

func (s *slow) happen(n api.Note) {
	switch n.Kind {
	case api.NoteDef:
		d, _, _ := def.Parse(n.Text)
		s.versions = append(s.versions, 1+s.newest(d.Name))
		s.known = append(s.known, d)
	case api.NoteStart:
		d, _ := s.find(n.Name, n.Version)
		x, err := phase.Start(d, n.Inst, n.Key, n.Version)
		if err != api.OK || n.Inst != len(s.insts)+1 {
			panic(fmt.Sprintf("the note %v can't come", n))
		}
		s.insts = append(s.insts, x)
	default:
		x, err := phase.On(s.defOf(n.Inst), s.insts[n.Inst-1], n)
		if err != api.OK {
			panic(fmt.Sprintf("the note %v can't come", n))
		}
		s.insts[n.Inst-1] = x
	}
}

// newest is the greatest version of a name: 0, if there is none.
func (s *slow) newest(name string) int {
	version := 0
	for i, d := range s.known {
		if d.Name == name {
			version = s.versions[i]
		}
	}
	return version
}

func (s *slow) find(name string, version int) (api.Def, bool) {
	for i, d := range s.known {
		if d.Name == name && s.versions[i] == version {
			return d, true
		}
	}
	return api.Def{}, false
}

func (s *slow) defOf(id int) api.Def {
	d, _ := s.find(s.insts[id-1].Name, s.insts[id-1].Version)
	return d
}

// open are the ids of the instances that are not closed.
func (s *slow) open() []int {
	var ids []int
	for _, x := range s.insts {
		if !phase.Closed(x) {
			ids = append(ids, x.Id)
		}
	}
	return ids
}

func (s *slow) wants(id int, x api.Inst) []string {
	var forms []string
	for _, l := range phase.Wants(s.defOf(id), x) {
		form, _ := codec.Letter(l)
		forms = append(forms, form)
	}
	return forms
}

func (s *slow) delay(tries int) int { return s.c.Backoff[min(tries, len(s.c.Backoff)-1)] }

func (s *slow) goOn(id int, was api.Inst) {
	d := s.defOf(id)
	for {
		next := phase.Next(d, s.insts[id-1])
		if len(next) == 0 || !s.note(next[0]) {
			break
		}
	}
	x := s.insts[id-1]
	if reflect.DeepEqual(x, was) {
		return
	}
	if phase.Closed(x) {
		delete(s.waits, id)
		return
	}
	s.waits[id].tries, s.waits[id].again = 0, s.now+s.delay(0)
	before := s.wants(id, was)
	for _, form := range s.wants(id, x) {
		if !slices.Contains(before, form) {
			s.letters = append(s.letters, form)
		}
	}
}

// goOnBy notes something of an instance, and goes on with it.
func (s *slow) goOnBy(n api.Note) bool {
	was := s.insts[n.Inst-1]
	if !s.note(n) {
		return false
	}
	s.goOn(n.Inst, was)
	return true
}

func (s *slow) call(r api.Request) api.Errno {
	if s.down {
		return api.ErrDown
	}
	wrong := r.Kind == 2 && (!name.Is(r.Key) || !name.Is(r.Name) || r.Version < 0) || (r.Kind == 3 || r.Kind == 4) && r.Id < 0
	if r.Kind < 1 || r.Kind > 5 || wrong {
		return api.ErrArg
	}
	reply := []func(api.Request) api.Reply{nil, s.register, s.start, s.cancel, s.query, s.list}[r.Kind](r)
	reply.Kind = r.Kind
	s.replies = append(s.replies, reply)
	return api.OK
}

func (s *slow) register(r api.Request) api.Reply {
	d, _, err := def.Parse(r.Text)
	if err != api.OK {
		return api.Reply{Code: err}
	}
	if _, err := check.Check(d); err != api.OK {
		return api.Reply{Code: err}
	}
	version := s.newest(d.Name)
	if newest, is := s.find(d.Name, version); is && reflect.DeepEqual(newest, d) {
		return api.Reply{Version: version}
	}
	if len(s.known) == 16 {
		return api.Reply{Code: api.ErrRegistryFull}
	}
	text, err := def.Print(d)
	if err != api.OK {
		return api.Reply{Code: err}
	}
	if !s.note(api.Note{Kind: api.NoteDef, Text: text}) {
		return api.Reply{Code: api.ErrDiskFull}
	}
	return api.Reply{Version: version + 1}
}

// left is what all instances leave of the budgets.
func (s *slow) left() api.Cost {
	left := api.Cost{Orch: s.c.Orch, Parts: s.c.Parts}
	for _, x := range s.insts {
		c, _ := cost.Of(s.defOf(x.Id))
		left.Orch -= c.Orch
		for part := range left.Parts {
			left.Parts[part] -= c.Parts[part]
		}
	}
	return left
}

func (s *slow) start(r api.Request) api.Reply {
	for _, x := range s.insts {
		if x.Key != r.Key {
			continue
		}
		if x.Name != r.Name || r.Version > 0 && r.Version != x.Version {
			return api.Reply{Code: api.ErrOrchKey}
		}
		return api.Reply{Id: x.Id, Version: x.Version}
	}
	version := r.Version
	if version == 0 {
		version = s.newest(r.Name)
	}
	d, is := s.find(r.Name, version)
	if !is {
		return api.Reply{Code: api.ErrRegistryNone}
	}
	if err := s.admits(d); err != api.OK {
		return api.Reply{Code: err}
	}
	id := len(s.insts) + 1
	if !s.note(api.Note{Kind: api.NoteStart, Inst: id, Key: r.Key, Name: r.Name, Version: version}) {
		return api.Reply{Code: api.ErrDiskFull}
	}
	s.begin(id)
	s.goOn(id, s.insts[id-1])
	return api.Reply{Id: id, Version: version}
}

func (s *slow) admits(d api.Def) api.Errno {
	left := s.left()
	c, _ := cost.Of(d)
	switch {
	case len(s.insts) == 60:
		return api.ErrOrchFull
	case len(s.open()) == s.c.Live:
		return api.ErrQuotaLive
	case c.Orch > left.Orch:
		return api.ErrQuotaOrch
	}
	for part := range 4 {
		if c.Parts[part] > left.Parts[part] {
			return api.ErrQuotaPart
		}
	}
	return api.OK
}

func (s *slow) begin(id int) {
	s.waits[id] = &timer{again: s.now + s.delay(0), late: s.now + s.c.Deadline}
}

func (s *slow) cancel(r api.Request) api.Reply {
	if r.Id < 1 || r.Id > len(s.insts) {
		return api.Reply{Code: api.ErrOrchNone}
	}
	switch s.insts[r.Id-1].Phase {
	case api.Forward:
		if !s.goOnBy(api.Note{Kind: api.NoteCancel, Inst: r.Id}) {
			return api.Reply{Code: api.ErrDiskFull}
		}
	case api.Sealed, api.Completing, api.Committed:
		return api.Reply{Code: api.ErrOrchLate}
	}
	return api.Reply{Id: r.Id}
}

func (s *slow) query(r api.Request) api.Reply {
	if r.Id < 1 || r.Id > len(s.insts) {
		return api.Reply{Code: api.ErrOrchNone}
	}
	x := s.insts[r.Id-1]
	x.Steps = slices.Clone(x.Steps)
	return api.Reply{Id: r.Id, Inst: x}
}

func (s *slow) list(api.Request) api.Reply {
	var reply api.Reply
	for _, x := range s.insts {
		reply.Rows = append(reply.Rows, api.Row{Id: x.Id, Phase: x.Phase})
	}
	return reply
}

func (s *slow) deliver(letter string) api.Errno {
	if s.down {
		return api.ErrDown
	}
	l, err := codec.ReadLetter(letter)
	if err != api.OK || l.Kind <= 3 {
		return api.ErrArg
	}
	if !slices.Contains(s.open(), l.Inst) || l.Kind == api.LetterAgain {
		return api.OK
	}
	d := s.defOf(l.Inst)
	var n api.Note
	if l.Kind == api.LetterFreed {
		if !slices.Contains(cost.Named(d), l.Part) {
			return api.OK
		}
		n = api.Note{Kind: api.NoteFreed, Inst: l.Inst, Part: l.Part}
	} else {
		if l.Step >= len(d.Steps) || d.Steps[l.Step].Part != l.Part {
			return api.OK
		}
		state := map[int]int{api.LetterDone: api.StepDone, api.LetterNo: api.StepNo, api.LetterBusy: api.StepBusy, api.LetterUndone: api.StepUndone}[l.Kind]
		n = api.Note{Kind: api.NoteMark, Inst: l.Inst, Step: l.Step, State: state}
	}
	if _, err := phase.On(d, s.insts[l.Inst-1], n); err != api.OK {
		return api.OK
	}
	if !s.goOnBy(n) {
		return api.ErrDiskFull
	}
	return api.OK
}

// due is retry's, by its words: whose letters are to be sent again, and who is late.
func (s *slow) due() ([]int, []int) {
	var again, late []int
	for id := 1; id <= 60; id++ {
		w := s.waits[id]
		if w == nil {
			continue
		}
		if w.again <= s.now {
			w.tries++
			w.again = s.now + s.delay(w.tries)
			again = append(again, id)
		}
		if !w.wasLate && w.late <= s.now {
			w.wasLate = true
			late = append(late, id)
		}
	}
	return again, late
}

func (s *slow) tick() api.Errno {
	if s.down {
		return api.ErrDown
	}
	s.now++
	again, late := s.due()
	for _, id := range late {
		if s.insts[id-1].Phase == api.Forward {
			s.goOnBy(api.Note{Kind: api.NoteLate, Inst: id})
		}
	}
	for _, id := range s.open() {
		s.goOn(id, s.insts[id-1])
	}
	for _, id := range again {
		if slices.Contains(s.open(), id) {
			s.letters = append(s.letters, s.wants(id, s.insts[id-1])...)
		}
	}
	return api.OK
}

func (s *slow) sync() ([]string, []api.Reply, []api.Note) {
	if s.down {
		return nil, nil, nil
	}
	letters, replies, notes := s.letters, s.replies, s.notes
	s.told = append(s.told, s.notes...)
	s.safe, s.unsafe = s.safe+s.unsafe, 0
	s.letters, s.replies, s.notes = nil, nil, nil
	return letters, replies, notes
}

// crash leaves torn bytes on the disk, as far as they are kept; they are unsafe's till the restart.
func (s *slow) crash(keep int) ([]api.Note, api.Errno) {
	if s.down {
		return nil, api.ErrDown
	}
	left := min(max(keep, 0), s.unsafe)
	s.unsafe = left
	var whole []api.Note
	for _, n := range s.notes {
		size := frameBytes + len(noteForm(n))
		if size > left {
			break
		}
		left -= size
		s.safe, s.unsafe = s.safe+size, s.unsafe-size
		whole = append(whole, n)
	}
	s.told = append(s.told, whole...)
	s.letters, s.replies, s.notes, s.down = nil, nil, nil, true
	return whole, api.OK
}

func (s *slow) restart() api.Errno {
	if !s.down {
		return api.ErrArg
	}
	s.down, s.unsafe, s.now = false, 0, 0
	s.waits, s.known, s.versions, s.insts = map[int]*timer{}, nil, nil, nil
	for _, n := range s.told {
		s.happen(n)
	}
	for _, id := range s.open() {
		s.begin(id)
	}
	for _, id := range s.open() {
		s.goOn(id, s.insts[id-1])
	}
	s.letters = nil
	for _, id := range s.open() {
		s.letters = append(s.letters, s.wants(id, s.insts[id-1])...)
	}
	return api.OK
}

// short are the forms that a Compact is to list.
func (s *slow) short() []string {
	var forms []string
	for _, d := range s.known {
		text, _ := def.Print(d)
		forms = append(forms, noteForm(api.Note{Kind: api.NoteDef, Text: text}))
	}
	for _, x := range s.insts {
		forms = append(forms, noteForm(api.Note{Kind: api.NoteStart, Inst: x.Id, Key: x.Key, Name: x.Name, Version: x.Version}))
		for _, n := range phase.Notes(s.defOf(x.Id), x) {
			forms = append(forms, noteForm(n))
		}
	}
	return forms
}

func (s *slow) compact() api.Errno {
	switch {
	case s.down:
		return api.ErrDown
	case len(s.letters)+len(s.replies)+len(s.notes) > 0:
		return api.ErrOrchQueue
	}
	snap, _ := pack.List(s.short())
	gen, _ := pack.Num(s.gen + 1)
	size := frameBytes + 1 + len(gen) + len(snap)
	if s.safe+size > s.c.Rooms[4] {
		return api.ErrDiskFull
	}
	s.gen, s.safe = s.gen+1, size
	return api.OK
}

func alikeInst(a, b api.Inst) bool {
	steps := slices.Equal(a.Steps, b.Steps)
	a.Steps, b.Steps = nil, nil
	return steps && reflect.DeepEqual(a, b)
}

func alikeReply(a, b api.Reply) bool {
	fields := a.Kind == b.Kind && a.Code == b.Code && a.Id == b.Id && a.Version == b.Version
	return fields && alikeInst(a.Inst, b.Inst) && slices.Equal(a.Rows, b.Rows)
}

func alikeDef(a, b api.Def) bool {
	return a.Name == b.Name && slices.EqualFunc(a.Steps, b.Steps, func(a, b api.Step) bool {
		fields := a.Name == b.Name && a.Kind == b.Kind && a.Part == b.Part
		return fields && slices.Equal(a.Keys, b.Keys) && slices.Equal(a.Needs, b.Needs)
	})
}

// both are a node and its likeness.
type both struct {
	t *testing.T
	o *Orch
	s *slow
}

func newBoth(t *testing.T, c api.Config) *both {
	t.Helper()
	o, err := New(c)
	if o == nil || err != api.OK {
		t.Fatalf("P21.1: New(%v) = %d", c, err)
	}
	b := &both{t, o, newSlow(c)}
	b.hold("New")
	return b
}

// hold holds all that the node tells of itself against its likeness.
func (b *both) hold(what string) {
	b.t.Helper()
	if b.o.Up() == b.s.down {
		b.t.Fatalf("P21.8: %s: Up() = %t", what, b.o.Up())
	}
	insts, defs := b.s.insts, b.s.known
	if b.s.down {
		insts, defs = nil, nil
	}
	if got := b.o.Insts(); !slices.EqualFunc(got, insts, alikeInst) {
		b.t.Fatalf("P21.8: %s: Insts %v, want %v", what, got, insts)
	}
	if got := b.o.Defs(); !slices.EqualFunc(got, defs, alikeDef) {
		b.t.Fatalf("P21.8: %s: Defs %v, want %v", what, got, defs)
	}
	d := b.o.Disk()
	if d.Used() != b.s.safe+b.s.unsafe || d.Room() != b.s.c.Rooms[4] {
		b.t.Fatalf("P21.8: %s: the disk has %d of %d bytes, want %d of %d", what, d.Used(), d.Room(), b.s.safe+b.s.unsafe, b.s.c.Rooms[4])
	}
}

func (b *both) call(r api.Request) {
	b.t.Helper()
	if err, want := b.o.Call(r), b.s.call(r); err != want {
		b.t.Fatalf("P21.2: Call(%v) = %d, want %d", r, err, want)
	}
	b.hold(fmt.Sprint("Call of ", r))
}

func (b *both) deliver(letter string) {
	b.t.Helper()
	if err, want := b.o.Deliver(letter), b.s.deliver(letter); err != want {
		b.t.Fatalf("P21.3: Deliver(%q) = %d, want %d", letter, err, want)
	}
	b.hold(fmt.Sprintf("Deliver of %q", letter))
}

func (b *both) tick() {
	b.t.Helper()
	if err, want := b.o.Tick(), b.s.tick(); err != want {
		b.t.Fatalf("P21.4: Tick = %d, want %d", err, want)
	}
	b.hold("Tick")
}

func (b *both) sync() []string {
	b.t.Helper()
	letters, replies, notes := b.o.Sync()
	wantLetters, wantReplies, wantNotes := b.s.sync()
	if !slices.Equal(letters, wantLetters) {
		b.t.Fatalf("P21.5: Sync: the letters %q, want %q", letters, wantLetters)
	}
	if !slices.EqualFunc(replies, wantReplies, alikeReply) {
		b.t.Fatalf("P21.5: Sync: the replies %v, want %v", replies, wantReplies)
	}
	if !slices.Equal(notes, wantNotes) {
		b.t.Fatalf("P21.5: Sync: the notes %v, want %v", notes, wantNotes)
	}
	b.hold("Sync")
	return letters
}

func (b *both) crash(keep int) {
	b.t.Helper()
	notes, err := b.o.Crash(keep)
	want, wantErr := b.s.crash(keep)
	if !slices.Equal(notes, want) || err != wantErr {
		b.t.Fatalf("P21.6: Crash(%d) = %v, %d, want %v, %d", keep, notes, err, want, wantErr)
	}
	b.hold("Crash")
}

func (b *both) restart() {
	b.t.Helper()
	if err, want := b.o.Restart(), b.s.restart(); err != want {
		b.t.Fatalf("P21.6: Restart = %d, want %d", err, want)
	}
	b.hold("Restart")
}

func (b *both) compact() {
	b.t.Helper()
	if err, want := b.o.Compact(), b.s.compact(); err != want {
		b.t.Fatalf("P21.7: Compact = %d, want %d", err, want)
	}
	b.hold("Compact")
}

// downAndUp is of P4: a crash and a restart, once more, and Compacts between: it is always what was told that makes it.
func (b *both) downAndUp(keep int) {
	b.t.Helper()
	b.crash(keep)
	b.restart()
	b.sync()
	before := b.o.Insts()
	b.compact()
	b.crash(0)
	b.restart()
	b.sync()
	b.compact()
	b.compact()
	if after := b.o.Insts(); !slices.EqualFunc(after, before, alikeInst) && b.s.c.Rooms[4] > 10000 {
		b.t.Fatalf("P4: a second crash made %v of %v", after, before)
	}
}

// TestEveryShortRow: all rows of four out of eleven calls, behind a start and not, on a disk that is soon full and on a roomy one.
func TestEveryShortRow(t *testing.T) {
	const rowLength = 4
	start := func(b *both) { b.call(api.Request{Kind: api.RequestStart, Key: "k", Name: "a"}) }
	calls := []func(b *both){
		start,
		func(b *both) { b.call(api.Request{Kind: api.RequestStart, Key: "l", Name: "a", Version: 1}) },
		func(b *both) { b.call(api.Request{Kind: api.RequestCancel, Id: 1}) },
		func(b *both) { b.deliver("L\x04\x00\x01\x00") },
		func(b *both) { b.deliver("L\x05\x00\x01\x00") },
		func(b *both) { b.deliver("L\x09\x00\x01") },
		func(b *both) { b.tick() },
		func(b *both) { b.sync() },
		func(b *both) { b.crash(25) },
		func(b *both) { b.restart() },
		func(b *both) { b.compact() },
	}
	rows := 1
	for range rowLength {
		rows *= len(calls)
	}
	c := testConfig()
	c.Deadline = 2
	for _, room := range []int{headBytes + 60, headBytes + 80, 10000} {
		c.Rooms[4] = room
		for row := range 2 * rows {
			b := newBoth(t, c)
			b.call(api.Request{Kind: api.RequestRegister, Text: "a; do b @0"})
			if row >= rows {
				start(b)
			}
			b.sync()
			for left, i := row, 0; i < rowLength; left, i = left/len(calls), i+1 {
				calls[left%len(calls)](b)
			}
			b.sync()
		}
	}
}

func (m *made) text() string {
	return m.one(
		"a; do b @0", "a; do b @0 +d; do c @1 +a <b", "b; pivot p @2", "b; ever e @3; ever f @3 <e",
		"c; do b @0; do c @1 <b; pivot p @2; ever e @3", "c; do b @0; do c @0; do d @1", "d; do a @1 +a; pivot b @1 +a; ever c @1 +a; ever d @0",
		"e; do a @0; do b @1 <a; do c @2 <b; do d @3 <c; pivot e @0; ever f @1; ever g @2 <f; ever h @3 <g",
		"a; do", "A;DO b @0", "a; do b @0; do b @0", "a; do b @0 +a", "", "a", "d; do a @1 <b; do b @1 <a")
}

func (m *made) request(s *slow) api.Request {
	switch m.below(12) {
	case 0, 1:
		return api.Request{Kind: api.RequestRegister, Text: m.text(), Id: -1}
	case 2:
		return api.Request{Kind: api.RequestQuery, Id: m.below(len(s.insts) + 2)}
	case 3:
		return api.Request{Kind: api.RequestList, Id: -1, Key: "K"}
	case 4, 5:
		return api.Request{Kind: api.RequestCancel, Id: m.below(len(s.insts) + 2)}
	case 6:
		return []api.Request{{}, {Kind: 6}, {Kind: 2, Key: "K", Name: "a"}, {Kind: 2, Key: "k", Name: ""}, {Kind: 2, Key: "k", Name: "a", Version: -1}, {Kind: 3, Id: -1}, {Kind: 4, Id: -1}}[m.below(7)]
	}
	key := string([]rune{rune('a' + m.below(26)), rune('a' + m.below(3))})
	return api.Request{Kind: api.RequestStart, Key: key, Name: m.one("a", "b", "c", "d", "e", "f"), Version: max(0, m.below(6)-3)}
}

// letter is most often an answer to one that an instance wants.
func (m *made) letter(s *slow) string {
	var wanted []api.Letter
	for _, id := range s.open() {
		wanted = append(wanted, phase.Wants(s.defOf(id), s.insts[id-1])...)
	}
	if len(wanted) == 0 || m.below(6) == 0 {
		l := api.Letter{Kind: 1 + m.below(9), Part: m.below(4), Inst: 1 + m.below(len(s.insts)+2), Step: m.below(4)}
		switch l.Kind {
		case api.LetterDo:
			l.Sort = 1
		case api.LetterFree, api.LetterFreed:
			l.Step = 0
		}
		form, _ := codec.Letter(l)
		return form[:len(form)-m.below(20)/19]
	}
	l := wanted[m.below(len(wanted))]
	reply := api.Letter{Kind: api.LetterFreed, Part: l.Part, Inst: l.Inst, Step: l.Step}
	switch l.Kind {
	case api.LetterDo:
		reply.Kind = []int{4, 4, 4, 4, 4, 5, 6, 7, 8}[m.below(9)]
	case api.LetterUndo:
		reply.Kind = []int{7, 7, 7, 7, 8, 4, 5}[m.below(7)]
	}
	if m.below(20) == 0 {
		reply.Part = m.below(4)
	}
	form, _ := codec.Letter(reply)
	return form
}

func (m *made) step(b *both) {
	switch k := m.below(24); {
	case k < 3:
		b.sync()
	case k == 3:
		b.crash(m.below(120) - 10)
	case k == 4 || k == 5 || b.s.down:
		b.restart()
	case k == 6:
		b.compact()
	case k == 7:
		b.downAndUp(m.below(80) - 5)
	case k < 10:
		b.tick()
	case k < 15:
		b.call(m.request(b.s))
	default:
		b.deliver(m.letter(b.s))
	}
}

func (m *made) config() api.Config {
	c := api.Config{Live: 1 + m.below(5), Orch: 20 + m.below(300), Backoff: []int{1 + m.below(3)}, Deadline: 1 + m.below(30)}
	for range m.below(4) {
		c.Backoff = append(c.Backoff, c.Backoff[len(c.Backoff)-1]+m.below(3))
	}
	for part := range c.Parts {
		c.Parts[part] = 5 + m.below(100)
	}
	c.Rooms[4] = 60 + m.below(700)
	if m.below(2) > 0 {
		c.Rooms[4], _ = cost.Room(4, c.Orch)
	}
	return c
}

func TestLongRows(t *testing.T) {
	m := made(211)
	closed, full := 0, 0
	for range 600 {
		b := newBoth(t, m.config())
		for range 250 {
			m.step(b)
		}
		closed += len(b.s.insts) - len(b.s.open())
		roomy, _ := cost.Room(4, b.s.c.Orch)
		switch {
		case b.s.refused > 0 && b.s.c.Rooms[4] == roomy:
			t.Fatalf("P21.9: %d notes had no room in %d bytes", b.s.refused, roomy)
		case b.s.refused > 0:
			full++
		}
	}
	if closed < 1000 || full < 100 {
		t.Errorf("%d instances were closed, %d disks were full only", closed, full)
	}
}
