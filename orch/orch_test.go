package orch

import (
	"math"
	"slices"
	"strings"
	"testing"

	"odyssey/api"
	"odyssey/codec"
	"odyssey/cost"
	"odyssey/journal"
	"odyssey/name"
)

// testConfig is that of chapter 21's examples.
func testConfig() api.Config {
	return api.Config{Live: 2, Orch: 100, Parts: [4]int{50, 50, 50, 50}, Rooms: [5]int{4: 100000}, Backoff: []int{1, 2}, Deadline: 10}
}

func mustNew(t *testing.T, c api.Config) *Orch {
	t.Helper()
	o, err := New(c)
	if o == nil || err != api.OK {
		t.Fatalf("P21.1: New(%v) = %d", c, err)
	}
	return o
}

// with is a new node that knows definitions, and at which nothing waits.
func with(t *testing.T, c api.Config, texts ...string) *Orch {
	t.Helper()
	o := mustNew(t, c)
	for _, text := range texts {
		mustReply(t, "P21.2", o, register(text), api.Reply{Version: 1})
	}
	return o
}

func register(text string) api.Request {
	return api.Request{Kind: api.RequestRegister, Text: text}
}

func start(key, name string, version int) api.Request {
	return api.Request{Kind: api.RequestStart, Key: key, Name: name, Version: version}
}

func cancel(id int) api.Request { return api.Request{Kind: api.RequestCancel, Id: id} }

func query(id int) api.Request { return api.Request{Kind: api.RequestQuery, Id: id} }

var list = api.Request{Kind: api.RequestList}

func mustCall(t *testing.T, what string, o *Orch, r api.Request, want api.Errno) {
	t.Helper()
	if err := o.Call(r); err != want {
		t.Errorf("%s: Call(%v) = %d, want %d", what, r, err, want)
	}
}

// mustReply is of a request at whose node nothing waits: its reply is the one that the next Sync tells.
func mustReply(t *testing.T, what string, o *Orch, r api.Request, want api.Reply) ([]string, []api.Note) {
	t.Helper()
	mustCall(t, what, o, r, api.OK)
	letters, replies, notes := o.Sync()
	want.Kind = r.Kind
	if len(replies) != 1 || !alikeReply(replies[0], want) {
		t.Errorf("%s: %v is answered %v, want %v", what, r, replies, want)
	}
	return letters, notes
}

// mustRefuse is of a request that is answered by an error: by that alone, and nothing comes of it.
func mustRefuse(t *testing.T, what string, o *Orch, r api.Request, code api.Errno) {
	t.Helper()
	insts, defs := o.Insts(), o.Defs()
	_, left := o.quota.Left()
	letters, notes := mustReply(t, what, o, r, api.Reply{Code: code})
	if len(letters) > 0 || len(notes) > 0 {
		t.Errorf("%s: %v is refused, and makes %q and %v", what, r, letters, notes)
	}
	if !slices.EqualFunc(o.Insts(), insts, alikeInst) || !slices.EqualFunc(o.Defs(), defs, alikeDef) {
		t.Errorf("R3: %v is refused, and changes what is known", r)
	}
	if _, after := o.quota.Left(); after != left {
		t.Errorf("P21.9: %v is refused, and costs: %v are left of %v", r, after, left)
	}
}

func mustSync(t *testing.T, what string, o *Orch, letters []string, notes ...api.Note) {
	t.Helper()
	gotLetters, _, gotNotes := o.Sync()
	if !slices.Equal(gotLetters, letters) {
		t.Errorf("%s: the letters %q, want %q", what, gotLetters, letters)
	}
	if !slices.Equal(gotNotes, notes) {
		t.Errorf("%s: the notes %v, want %v", what, gotNotes, notes)
	}
}

func mustDeliver(t *testing.T, what string, o *Orch, letter string, want api.Errno) {
	t.Helper()
	if err := o.Deliver(letter); err != want {
		t.Errorf("%s: Deliver(%q) = %d, want %d", what, letter, err, want)
	}
}

func mustTick(t *testing.T, what string, o *Orch) {
	t.Helper()
	if err := o.Tick(); err != api.OK {
		t.Errorf("%s: Tick = %d", what, err)
	}
}

func mustCrash(t *testing.T, what string, o *Orch, keep int, want ...api.Note) {
	t.Helper()
	if notes, err := o.Crash(keep); !slices.Equal(notes, want) || err != api.OK || o.Up() {
		t.Errorf("%s: Crash(%d) = %v, %d, want %v", what, keep, notes, err, want)
	}
}

func mustRestart(t *testing.T, what string, o *Orch) {
	t.Helper()
	if err := o.Restart(); err != api.OK || !o.Up() {
		t.Errorf("%s: Restart = %d", what, err)
	}
}

func mustCompact(t *testing.T, what string, o *Orch, want api.Errno) {
	t.Helper()
	if err := o.Compact(); err != want {
		t.Errorf("%s: Compact = %d, want %d", what, err, want)
	}
}

// mustStand is of an instance's phase, its cause and its steps.
func mustStand(t *testing.T, what string, o *Orch, id, phase, cause int, steps ...int) {
	t.Helper()
	insts := o.Insts()
	if len(insts) < id {
		t.Fatalf("%s: there are %d instances", what, len(insts))
	}
	if x := insts[id-1]; x.Id != id || x.Phase != phase || x.Cause != cause || !slices.Equal(x.Steps, steps) {
		t.Errorf("%s: the instance %v, want %d, %d, %v", what, x, phase, cause, steps)
	}
}

func letter(kind, part, inst, step int) string {
	form, _ := codec.Letter(api.Letter{Kind: kind, Part: part, Inst: inst, Step: step})
	return form
}

func do(part, inst, step, sort int, keys ...string) string {
	form, _ := codec.Letter(api.Letter{Kind: api.LetterDo, Part: part, Inst: inst, Step: step, Sort: sort, Keys: keys})
	return form
}

func done(part, inst, step int) string { return letter(api.LetterDone, part, inst, step) }

func undo(part, inst, step int) string { return letter(api.LetterUndo, part, inst, step) }

func undone(part, inst, step int) string { return letter(api.LetterUndone, part, inst, step) }

func free(part, inst int) string { return letter(api.LetterFree, part, inst, 0) }

func freed(part, inst int) string { return letter(api.LetterFreed, part, inst, 0) }

func noteDef(text string) api.Note { return api.Note{Kind: api.NoteDef, Text: text} }

func noteStart(id int, key, name string, version int) api.Note {
	return api.Note{Kind: api.NoteStart, Inst: id, Key: key, Name: name, Version: version}
}

func note(kind, id int) api.Note { return api.Note{Kind: kind, Inst: id} }

func issue(id, step int) api.Note { return api.Note{Kind: api.NoteIssue, Inst: id, Step: step} }

func mark(id, step, state int) api.Note {
	return api.Note{Kind: api.NoteMark, Inst: id, Step: step, State: state}
}

func noteFreed(id, part int) api.Note { return api.Note{Kind: api.NoteFreed, Inst: id, Part: part} }

const (
	plain = "a; do b @0"
	trip  = "trip; do hotel @1 +room; do car @0 <hotel; pivot pay @2; ever mail @3"
)

func TestExamples(t *testing.T) {
	o := mustNew(t, testConfig())
	letters, notes := mustReply(t, "P21.2", o, register(plain), api.Reply{Version: 1})
	if len(letters) > 0 || !slices.Equal(notes, []api.Note{noteDef(plain)}) {
		t.Errorf("P21.2: %q, %v", letters, notes)
	}
	letters, notes = mustReply(t, "P21.2", o, start("k", "a", 0), api.Reply{Id: 1, Version: 1})
	if !slices.Equal(letters, []string{"L\x01\x00\x01\x00\x01\x00"}) || !slices.Equal(notes, []api.Note{noteStart(1, "k", "a", 1), issue(1, 0)}) {
		t.Errorf("P21.2: %q, %v", letters, notes)
	}
	mustTick(t, "P21.4", o)
	mustSync(t, "P21.4", o, letters)
	mustTick(t, "P21.4", o)
	mustSync(t, "P21.4", o, nil)
	mustTick(t, "P21.4", o)
	mustSync(t, "P21.4", o, letters)
	mustDeliver(t, "P21.3", o, "L\x04\x00\x01\x00", api.OK)
	mustSync(t, "P21.3", o, []string{"L\x03\x00\x01"}, mark(1, 0, api.StepDone), note(api.NoteEnd, 1))
	mustDeliver(t, "P21.3", o, "L\x09\x00\x01", api.OK)
	mustSync(t, "P21.3", o, nil, noteFreed(1, 0))
	mustStand(t, "P21.3", o, 1, api.Committed, 0)
	mustCompact(t, "P21.7", o, api.OK)
	mustList(t, o, noteDef(plain), noteStart(1, "k", "a", 1), api.Note{Kind: api.NoteBrief, Inst: 1, State: api.Committed})
	mustReply(t, "P21.2", o, start("k", "a", 0), api.Reply{Id: 1, Version: 1})
	mustRefuse(t, "P21.2", o, start("k", "b", 0), api.ErrOrchKey)
	mustRefuse(t, "P21.2", o, cancel(1), api.ErrOrchLate)
	mustRefuse(t, "P21.2", o, query(2), api.ErrOrchNone)
	mustReply(t, "P21.2", o, list, api.Reply{Rows: []api.Row{{Id: 1, Phase: api.Committed}}})
}

// TestExampleOfTheCrash is the fourth example: by the bytes that stay of two frames, of 13 and of 11 bytes.
func TestExampleOfTheCrash(t *testing.T) {
	end := note(api.NoteEnd, 1)
	for _, c := range []struct {
		keep  int
		told  []api.Note
		later []api.Note
	}{{-5, nil, nil}, {0, nil, nil}, {12, nil, nil}, {13, []api.Note{mark(1, 0, 2)}, []api.Note{end}}, {23, []api.Note{mark(1, 0, 2)}, []api.Note{end}}, {24, []api.Note{mark(1, 0, 2), end}, nil}, {100, []api.Note{mark(1, 0, 2), end}, nil}, {math.MaxInt, []api.Note{mark(1, 0, 2), end}, nil}, {math.MinInt, nil, nil}} {
		o := with(t, testConfig(), plain)
		mustReply(t, "P21.2", o, start("k", "a", 0), api.Reply{Id: 1, Version: 1})
		mustDeliver(t, "P21.3", o, done(0, 1, 0), api.OK)
		mustCrash(t, "P21.6", o, c.keep, c.told...)
		mustRestart(t, "P21.6", o)
		want := free(0, 1)
		if len(c.told) == 0 {
			want = do(0, 1, 0, 1)
		}
		mustSync(t, "P21.6", o, []string{want}, c.later...)
	}
}

// TestExamplesOfTheWhole are those of DOC.md, as far as they are this node's.
func TestExamplesOfTheWhole(t *testing.T) {
	o := mustNew(t, testConfig())
	_, notes := mustReply(t, "P21.2", o, register(trip), api.Reply{Version: 1})
	if !slices.Equal(notes, []api.Note{noteDef(trip)}) {
		t.Errorf("P21.2: %v", notes)
	}
	_, notes = mustReply(t, "P21.2", o, register(trip), api.Reply{Version: 1})
	if len(notes) > 0 {
		t.Errorf("P21.2: %v", notes)
	}
	mustCall(t, "P21.2", o, start("k1", "trip", 0), api.OK)
	mustSync(t, "P21.2", o, []string{do(1, 1, 0, 1, "room")}, noteStart(1, "k1", "trip", 1), issue(1, 0))
	mustDeliver(t, "P21.3", o, done(1, 1, 0), api.OK)
	mustSync(t, "P21.3", o, []string{do(0, 1, 1, 1)}, mark(1, 0, api.StepDone), issue(1, 1))
	mustCall(t, "P21.2", o, start("k2", "trip", 0), api.OK)
	mustSync(t, "P21.2", o, []string{do(1, 2, 0, 1, "room")}, noteStart(2, "k2", "trip", 1), issue(2, 0))
	mustDeliver(t, "P21.3", o, letter(api.LetterBusy, 1, 2, 0), api.OK)
	mustSync(t, "P21.3", o, []string{free(0, 2), free(1, 2), free(2, 2), free(3, 2)}, mark(2, 0, api.StepBusy), note(api.NoteEnd, 2))
	mustReply(t, "P21.2", o, query(2), api.Reply{Id: 2, Inst: api.Inst{Id: 2, Key: "k2", Name: "trip", Version: 1, Phase: api.Aborted, Cause: api.CauseBusy, Steps: []int{api.StepBusy, 0, 0, 0}}})
	mustCall(t, "P21.2", o, cancel(1), api.OK)
	mustSync(t, "P21.2", o, []string{undo(0, 1, 1)}, note(api.NoteCancel, 1))
	mustDeliver(t, "P21.3", o, undone(0, 1, 1), api.OK)
	mustSync(t, "P21.3", o, []string{undo(1, 1, 0)}, mark(1, 1, api.StepUndone))
}

// TestTooLateToCancel: the pivot is under way.
func TestTooLateToCancel(t *testing.T) {
	o := with(t, testConfig(), trip)
	mustCall(t, "P21.2", o, start("k1", "trip", 0), api.OK)
	mustDeliver(t, "P21.3", o, done(1, 1, 0), api.OK)
	mustDeliver(t, "P21.3", o, done(0, 1, 1), api.OK)
	o.Sync()
	mustStand(t, "P21.3", o, 1, api.Sealed, 0, 2, 2, 1, 0)
	mustRefuse(t, "P21.2", o, cancel(1), api.ErrOrchLate)
	mustDeliver(t, "P21.3", o, done(2, 1, 2), api.OK)
	mustSync(t, "P21.3", o, []string{do(3, 1, 3, 3)}, mark(1, 2, api.StepDone), issue(1, 3))
	mustRefuse(t, "P21.2", o, cancel(1), api.ErrOrchLate)
	mustDeliver(t, "P21.3", o, done(3, 1, 3), api.OK)
	o.Sync()
	mustRefuse(t, "P21.2", o, cancel(1), api.ErrOrchLate)
	for part := range 4 {
		mustDeliver(t, "P21.3", o, freed(part, 1), api.OK)
	}
	o.Sync()
	mustStand(t, "P21.3", o, 1, api.Committed, 0)
	mustRefuse(t, "P21.2", o, cancel(1), api.ErrOrchLate)
}

func TestNewRefused(t *testing.T) {
	for what, wrong := range map[string]func(c *api.Config){
		"Live 0":          func(c *api.Config) { c.Live = 0 },
		"Live 13":         func(c *api.Config) { c.Live = 13 },
		"Live -1":         func(c *api.Config) { c.Live = -1 },
		"Orch -1":         func(c *api.Config) { c.Orch = -1 },
		"Orch 100001":     func(c *api.Config) { c.Orch = 100001 },
		"Parts -1":        func(c *api.Config) { c.Parts[0] = -1 },
		"Parts 100001":    func(c *api.Config) { c.Parts[3] = 100001 },
		"no Backoff":      func(c *api.Config) { c.Backoff = nil },
		"Backoff falls":   func(c *api.Config) { c.Backoff = []int{2, 1} },
		"Backoff 0":       func(c *api.Config) { c.Backoff = []int{0} },
		"Backoff 1001":    func(c *api.Config) { c.Backoff = []int{1001} },
		"Backoff of nine": func(c *api.Config) { c.Backoff = []int{1, 1, 1, 1, 1, 1, 1, 1, 1} },
		"Deadline 0":      func(c *api.Config) { c.Deadline = 0 },
		"Deadline":        func(c *api.Config) { c.Deadline = api.MaxTick + 1 },
		"room 0":          func(c *api.Config) { c.Rooms[4] = 0 },
		"room -1":         func(c *api.Config) { c.Rooms[4] = math.MinInt },
		"room":            func(c *api.Config) { c.Rooms[4] = api.MaxRoom + 1 },
		"Live and room 5": func(c *api.Config) { c.Live, c.Rooms[4] = 0, 5 },
		"Backoff, room 5": func(c *api.Config) { c.Backoff, c.Rooms[4] = nil, 5 },
	} {
		c := testConfig()
		wrong(&c)
		if o, err := New(c); o != nil || err != api.ErrWorldConfig {
			t.Errorf("P21.1: New with %s = %v, %d, want ErrWorldConfig", what, o, err)
		}
	}
	for room := 1; room < headBytes; room++ {
		c := testConfig()
		c.Rooms[4] = room
		if o, err := New(c); o != nil || err != api.ErrDiskFull {
			t.Errorf("P21.1: New with the room %d = %v, %d, want ErrDiskFull", room, o, err)
		}
	}
}

func TestNew(t *testing.T) {
	for _, c := range []api.Config{
		// The fields that are not looked at are wrong.
		{Live: 1, Rooms: [5]int{-1, 0, math.MaxInt, 399, headBytes}, Pool: -1, Backoff: []int{1}, Deadline: 1},
		{Live: 12, Orch: 100000, Parts: [4]int{100000, 0, 100000, 1}, Rooms: [5]int{4: api.MaxRoom}, Backoff: []int{1, 1, 1, 1, 1, 1, 1, 1000}, Deadline: api.MaxTick},
	} {
		o := mustNew(t, c)
		if !o.Up() || o.now != 0 || len(o.Insts()) > 0 || len(o.Defs()) > 0 {
			t.Errorf("P21.1: New(%v) is not new", c)
		}
		mustSync(t, "P21.1", o, nil)
		d := o.Disk()
		size, safe, _ := d.Size(0)
		if d.Room() != c.Rooms[4] || d.Used() != headBytes || size != headBytes || safe != headBytes {
			t.Errorf("P21.1: the disk has %d of %d bytes, and of the file 0 %d are safe", d.Used(), d.Room(), safe)
		}
		mustReply(t, "P21.1", o, list, api.Reply{})
	}
}

func TestCallsThatAreRefused(t *testing.T) {
	refused := []api.Request{
		{}, {Kind: -1}, {Kind: 6}, {Kind: math.MinInt}, {Kind: math.MaxInt}, {Kind: 1 << 32}, {Kind: 6, Key: "k", Name: "a", Id: 1, Text: plain},
		start("k", "a", -1), start("k", "a", math.MinInt), start("", "a", 0), start("k", "", 0), start("K", "a", 0), start("k", "A", 0), start("abcdefghi", "a", 0), start("k", "1", 0), start("k\xff", "a", 0),
		cancel(-1), cancel(math.MinInt), query(-1), query(math.MinInt),
	}
	o := with(t, testConfig(), plain)
	for _, r := range refused {
		mustCall(t, "P21.2", o, r, api.ErrArg)
	}
	if _, replies, notes := o.Sync(); len(replies)+len(notes) > 0 {
		t.Errorf("P21.2: what is refused has replies %v and notes %v", replies, notes)
	}
	mustCrash(t, "P21.6", o, 0)
	for _, r := range append(refused, list, register(plain), start("k", "a", 0)) {
		mustCall(t, "P21.2", o, r, api.ErrDown)
	}
}

// TestFieldsThatAreNotNamed: they are not looked at.
func TestFieldsThatAreNotNamed(t *testing.T) {
	wild := func(r api.Request) api.Request {
		for _, field := range []*string{&r.Key, &r.Name, &r.Text} {
			if *field == "" {
				*field = "\xff WILD"
			}
		}
		for _, field := range []*int{&r.Version, &r.Id} {
			if *field == 0 {
				*field = -1
			}
		}
		return r
	}
	o := with(t, testConfig(), plain)
	mustReply(t, "P21.2", o, wild(register("a; do c @0")), api.Reply{Version: 2})
	mustReply(t, "P21.2", o, wild(start("k", "a", 1)), api.Reply{Id: 1, Version: 1})
	mustReply(t, "P21.2", o, wild(list), api.Reply{Rows: []api.Row{{Id: 1, Phase: api.Forward}}})
	mustReply(t, "P21.2", o, wild(query(1)), api.Reply{Id: 1, Inst: api.Inst{Id: 1, Key: "k", Name: "a", Version: 1, Phase: api.Forward, Steps: []int{1}}})
	mustReply(t, "P21.2", o, wild(cancel(1)), api.Reply{Id: 1})
}

func TestRegister(t *testing.T) {
	o := mustNew(t, testConfig())
	for _, c := range []struct {
		text    string
		version int
		noted   string
	}{
		{plain, 1, plain}, {"A ;DO\tb @0 ", 1, ""}, {"a; do b @1", 2, "a; do b @1"}, {plain, 3, plain}, {plain, 3, ""}, {"b;do b @0 <c;do c @1 +a", 1, "b; do b @0 <c; do c @1 +a"}, {"a; do b @1", 4, "a; do b @1"},
	} {
		letters, notes := mustReply(t, "P21.2", o, register(c.text), api.Reply{Version: c.version})
		var want []api.Note
		if c.noted != "" {
			want = []api.Note{noteDef(c.noted)}
		}
		if len(letters) > 0 || !slices.Equal(notes, want) {
			t.Errorf("P21.2: Register of %q makes %q and %v, want %v", c.text, letters, notes, want)
		}
	}
	for text, code := range map[string]api.Errno{
		strings.Repeat(" ", 1801): api.ErrLong, "": api.ErrDefText, "a; do b": api.ErrDefText, "a; do b @0 <c": api.ErrDefText,
		"a": api.ErrCheckSteps, "a; do b @0; do b @0": api.ErrCheckTwice, "a; do b @0 +a": api.ErrCheckKey, "a; do b @0 <b": api.ErrCheckNeed, "a; pivot b @0; pivot c @0": api.ErrCheckPivot, "a; pivot b @0; do c @0 <b": api.ErrCheckOrder, "a; do b @0 <c; do c @0 <b": api.ErrCheckRing,
	} {
		mustRefuse(t, "P21.2", o, register(text), code)
	}
}

// TestSixteenDefinitions: the newest ones are told still, and none is put in.
func TestSixteenDefinitions(t *testing.T) {
	o := mustNew(t, testConfig())
	for i := range 16 {
		mustReply(t, "P21.2", o, register([]string{plain, "a; do c @0"}[i%2]), api.Reply{Version: i + 1})
	}
	mustRefuse(t, "P21.2", o, register(plain), api.ErrRegistryFull)
	mustRefuse(t, "P21.2", o, register("b; do b @0"), api.ErrRegistryFull)
	mustRefuse(t, "P21.2", o, register("b"), api.ErrCheckSteps)
	mustReply(t, "P21.2", o, register("a; do c @0"), api.Reply{Version: 16})
	mustReply(t, "P21.2", o, start("k", "a", 7), api.Reply{Id: 1, Version: 7})
	mustCompact(t, "P21.7", o, api.OK)
	mustCrash(t, "P21.6", o, 0)
	mustRestart(t, "P21.6", o)
	if defs := o.Defs(); len(defs) != 16 || defs[15].Steps[0].Name != "c" || defs[14].Steps[0].Name != "b" {
		t.Errorf("P21.6: the definitions %v", defs)
	}
}

func TestStartKeys(t *testing.T) {
	o := with(t, testConfig(), plain, "b; do b @0")
	mustReply(t, "P21.2", o, register("a; do c @0"), api.Reply{Version: 2})
	mustReply(t, "P21.2", o, start("k", "a", 1), api.Reply{Id: 1, Version: 1})
	for _, version := range []int{0, 1} {
		letters, notes := mustReply(t, "P21.2", o, start("k", "a", version), api.Reply{Id: 1, Version: 1})
		if len(letters) > 0 || len(notes) > 0 {
			t.Errorf("P21.2: the second start makes %q and %v", letters, notes)
		}
	}
	for _, r := range []api.Request{start("k", "a", 2), start("k", "a", 3), start("k", "b", 0), start("k", "b", 1), start("k", "c", 0), start("k", "a", math.MaxInt)} {
		mustRefuse(t, "P21.2", o, r, api.ErrOrchKey)
	}
	// The newest version, where none is told.
	mustReply(t, "P21.2", o, start("l", "a", 0), api.Reply{Id: 2, Version: 2})
	for _, r := range []api.Request{start("m", "c", 0), start("m", "a", 3), start("m", "b", 2), start("m", "c", math.MaxInt)} {
		mustRefuse(t, "P21.2", o, r, api.ErrRegistryNone)
	}
	mustRefuse(t, "P21.2", o, start("m", "a", 0), api.ErrQuotaLive)
	// A key is for ever, also behind the instance's end.
	mustDeliver(t, "P21.3", o, done(0, 1, 0), api.OK)
	mustDeliver(t, "P21.3", o, freed(0, 1), api.OK)
	o.Sync()
	mustReply(t, "P21.9", o, start("k", "a", 0), api.Reply{Id: 1, Version: 1})
	mustRefuse(t, "P21.9", o, start("k", "b", 0), api.ErrOrchKey)
	mustCompact(t, "P21.7", o, api.OK)
	mustCrash(t, "P21.6", o, 0)
	mustRestart(t, "P21.6", o)
	o.Sync()
	mustReply(t, "P21.9", o, start("k", "a", 1), api.Reply{Id: 1, Version: 1})
	mustRefuse(t, "P21.9", o, start("k", "b", 0), api.ErrOrchKey)
}

// TestStartBudgets: what there is is just enough for some instances.
func TestStartBudgets(t *testing.T) {
	// Of plain: 3 and 3 and 1 at the orchestrator, 1 and 2 at the participant 0.
	for _, c := range []struct {
		orch, part int
		want       api.Errno
	}{{14, 6, api.OK}, {13, 6, api.ErrQuotaOrch}, {14, 5, api.ErrQuotaPart}, {13, 5, api.ErrQuotaOrch}} {
		config := testConfig()
		config.Orch, config.Parts = c.orch, [4]int{c.part}
		o := with(t, config, plain)
		mustReply(t, "P21.2", o, start("k", "a", 0), api.Reply{Id: 1, Version: 1})
		if c.want != api.OK {
			mustRefuse(t, "P21.2", o, start("l", "a", 0), c.want)
			continue
		}
		mustReply(t, "P21.2", o, start("l", "a", 0), api.Reply{Id: 2, Version: 1})
		mustRefuse(t, "P21.2", o, start("m", "a", 0), api.ErrQuotaLive)
		mustDeliver(t, "P21.3", o, done(0, 1, 0), api.OK)
		o.Sync()
		// An instance is live till it is closed.
		mustRefuse(t, "P21.2", o, start("m", "a", 0), api.ErrQuotaLive)
		mustDeliver(t, "P21.3", o, freed(0, 1), api.OK)
		o.Sync()
		mustRefuse(t, "P21.2", o, start("m", "a", 0), api.ErrQuotaOrch)
		mustCompact(t, "P21.7", o, api.OK)
		mustCrash(t, "P21.6", o, 0)
		mustRestart(t, "P21.6", o)
		o.Sync()
		mustRefuse(t, "P21.6", o, start("m", "a", 0), api.ErrQuotaOrch)
	}
}

// closeAll does all that the open instances want, till none is left.
func closeAll(t *testing.T, o *Orch) {
	t.Helper()
	for range 100 {
		mustTick(t, "P21.4", o)
		letters, _, _ := o.Sync()
		for _, form := range letters {
			l, _ := codec.ReadLetter(form)
			answer := map[int]int{api.LetterDo: api.LetterDone, api.LetterUndo: api.LetterUndone, api.LetterFree: api.LetterFreed}[l.Kind]
			mustDeliver(t, "P21.3", o, letter(answer, l.Part, l.Inst, l.Step), api.OK)
		}
		if !slices.ContainsFunc(o.Insts(), func(x api.Inst) bool { return len(x.Steps) > 0 }) {
			o.Sync()
			return
		}
	}
	t.Fatalf("P21.9: the instances %v don't end", o.Insts())
}

func TestSixtyInstances(t *testing.T) {
	c := testConfig()
	c.Live, c.Orch, c.Parts = 12, 60*7, [4]int{60 * 3}
	o := with(t, c, plain, "b; do c @1")
	key := func(id int) string { return "k" + string(rune('a'+id%26)) + string(rune('a'+id/26)) }
	for id := 1; id <= 60; id++ {
		mustReply(t, "P21.2", o, start(key(id), "a", 0), api.Reply{Id: id, Version: 1})
		if id%12 == 0 {
			mustRefuse(t, "P21.2", o, start("x", "a", 0), map[bool]api.Errno{true: api.ErrOrchFull, false: api.ErrQuotaLive}[id == 60])
			closeAll(t, o)
		}
	}
	mustRefuse(t, "P21.2", o, start("x", "a", 0), api.ErrOrchFull)
	mustRefuse(t, "P21.2", o, start("x", "b", 1), api.ErrOrchFull)
	mustRefuse(t, "P21.2", o, start("x", "c", 0), api.ErrRegistryNone)
	mustReply(t, "P21.2", o, start(key(60), "a", 0), api.Reply{Id: 60, Version: 1})
	mustCompact(t, "P21.7", o, api.OK)
	mustCrash(t, "P21.6", o, 0)
	mustRestart(t, "P21.6", o)
	mustRefuse(t, "P21.2", o, start("x", "a", 0), api.ErrOrchFull)
	mustReply(t, "P21.2", o, query(60), api.Reply{Id: 60, Inst: api.Inst{Id: 60, Key: key(60), Name: "a", Version: 1, Phase: api.Committed}})
	_, replies, _ := o.Sync()
	if len(replies) > 0 {
		t.Errorf("P21.5: %v is told twice", replies)
	}
}

func TestCancel(t *testing.T) {
	o := with(t, testConfig(), "a; do b @0; do c @1")
	mustRefuse(t, "P21.2", o, cancel(0), api.ErrOrchNone)
	mustRefuse(t, "P21.2", o, cancel(1), api.ErrOrchNone)
	mustRefuse(t, "P21.2", o, cancel(math.MaxInt), api.ErrOrchNone)
	mustReply(t, "P21.2", o, start("k", "a", 0), api.Reply{Id: 1, Version: 1})
	letters, notes := mustReply(t, "P21.2", o, cancel(1), api.Reply{Id: 1})
	if !slices.Equal(letters, []string{undo(0, 1, 0), undo(1, 1, 1)}) || !slices.Equal(notes, []api.Note{note(api.NoteCancel, 1)}) {
		t.Errorf("P21.2: %q, %v", letters, notes)
	}
	again := func(phase int) {
		t.Helper()
		letters, notes := mustReply(t, "P21.2", o, cancel(1), api.Reply{Id: 1})
		if len(letters) > 0 || len(notes) > 0 || o.Insts()[0].Phase != phase {
			t.Errorf("P21.2: a cancel behind the cancel makes %q, %v", letters, notes)
		}
	}
	again(api.Backward)
	mustDeliver(t, "P21.3", o, undone(1, 1, 1), api.OK)
	// The other letter was wanted already.
	mustSync(t, "P21.3", o, nil, mark(1, 1, api.StepUndone))
	mustDeliver(t, "P21.3", o, undone(0, 1, 0), api.OK)
	mustSync(t, "P21.3", o, []string{free(0, 1), free(1, 1)}, mark(1, 0, api.StepUndone), note(api.NoteEnd, 1))
	again(api.Aborted)
	mustDeliver(t, "P21.3", o, freed(1, 1), api.OK)
	mustSync(t, "P21.3", o, nil, noteFreed(1, 1))
	again(api.Aborted)
	mustDeliver(t, "P21.3", o, freed(0, 1), api.OK)
	mustSync(t, "P21.3", o, nil, noteFreed(1, 0))
	mustStand(t, "P21.2", o, 1, api.Aborted, api.CauseCancel)
	again(api.Aborted)
	mustRefuse(t, "P21.2", o, cancel(2), api.ErrOrchNone)
}

func TestQueryAndList(t *testing.T) {
	o := with(t, testConfig(), plain, "b; pivot p @1; ever e @2")
	mustReply(t, "P21.2", o, start("k", "a", 0), api.Reply{Id: 1, Version: 1})
	mustReply(t, "P21.2", o, start("l", "b", 0), api.Reply{Id: 2, Version: 1})
	mustReply(t, "P21.2", o, list, api.Reply{Rows: []api.Row{{Id: 1, Phase: api.Forward}, {Id: 2, Phase: api.Sealed}}})
	mustReply(t, "P21.2", o, query(2), api.Reply{Id: 2, Inst: api.Inst{Id: 2, Key: "l", Name: "b", Version: 1, Phase: api.Sealed, Steps: []int{1, 0}}})
	mustDeliver(t, "P21.3", o, letter(api.LetterNo, 1, 2, 0), api.OK)
	mustDeliver(t, "P21.3", o, freed(2, 2), api.OK)
	mustDeliver(t, "P21.3", o, done(0, 1, 0), api.OK)
	o.Sync()
	mustReply(t, "P21.2", o, query(2), api.Reply{Id: 2, Inst: api.Inst{Id: 2, Key: "l", Name: "b", Version: 1, Phase: api.Aborted, Cause: api.CauseRefused, Steps: []int{3, 0}, Freed: [4]int{0, 0, 1, 0}}})
	mustDeliver(t, "P21.3", o, freed(1, 2), api.OK)
	o.Sync()
	mustReply(t, "P21.2", o, query(2), api.Reply{Id: 2, Inst: api.Inst{Id: 2, Key: "l", Name: "b", Version: 1, Phase: api.Aborted, Cause: api.CauseRefused}})
	mustReply(t, "P21.2", o, list, api.Reply{Rows: []api.Row{{Id: 1, Phase: api.Committed}, {Id: 2, Phase: api.Aborted}}})
	mustRefuse(t, "P21.2", o, query(0), api.ErrOrchNone)
	mustRefuse(t, "P21.2", o, query(3), api.ErrOrchNone)
	mustRefuse(t, "P21.2", o, query(math.MaxInt), api.ErrOrchNone)
}

// TestARequestThatWaits: replies tell how it was when they were made, in the order of the requests.
func TestARequestThatWaits(t *testing.T) {
	o := with(t, testConfig(), plain)
	for _, r := range []api.Request{list, start("k", "a", 0), query(1), list, cancel(1), query(1), list, query(2)} {
		mustCall(t, "P21.2", o, r, api.OK)
	}
	x := api.Inst{Id: 1, Key: "k", Name: "a", Version: 1, Phase: api.Forward, Steps: []int{1}}
	back := x
	back.Phase, back.Cause = api.Backward, api.CauseCancel
	letters, replies, notes := o.Sync()
	if !slices.EqualFunc(replies, []api.Reply{
		{Kind: api.RequestList}, {Kind: api.RequestStart, Id: 1, Version: 1}, {Kind: api.RequestQuery, Id: 1, Inst: x}, {Kind: api.RequestList, Rows: []api.Row{{Id: 1, Phase: api.Forward}}},
		{Kind: api.RequestCancel, Id: 1}, {Kind: api.RequestQuery, Id: 1, Inst: back}, {Kind: api.RequestList, Rows: []api.Row{{Id: 1, Phase: api.Backward}}}, {Kind: api.RequestQuery, Code: api.ErrOrchNone},
	}, alikeReply) {
		t.Errorf("P21.5: the replies %v", replies)
	}
	if !slices.Equal(letters, []string{do(0, 1, 0, 1), undo(0, 1, 0)}) || !slices.Equal(notes, []api.Note{noteStart(1, "k", "a", 1), issue(1, 0), note(api.NoteCancel, 1)}) {
		t.Errorf("P21.5: %q, %v", letters, notes)
	}
	mustSync(t, "P21.5", o, nil)
}

func TestLettersThatAreRefused(t *testing.T) {
	o := with(t, testConfig(), plain)
	mustReply(t, "P21.2", o, start("k", "a", 0), api.Reply{Id: 1, Version: 1})
	good := done(0, 1, 0)
	refused := []string{"", "x", "L", good + "x", good[:len(good)-1], "E\x01\x01\x00\x00", "N\x07\x01", "L\x04\x00\x00\x00", "L\x04\x00\x3d\x00", "L\x04\x04\x01\x00", "L\x04\x00\x01\x08", "L\x0a\x00\x01\x00", "\xff"}
	for part := range 4 {
		refused = append(refused, do(part, 1, 0, 1), undo(part, 1, 0), free(part, 1))
	}
	for _, form := range refused {
		mustDeliver(t, "P21.3", o, form, api.ErrArg)
	}
	mustSync(t, "P21.3", o, nil)
	mustStand(t, "P21.3", o, 1, api.Forward, 0, 1)
	mustCrash(t, "P21.6", o, 0)
	for _, form := range append(refused, good) {
		mustDeliver(t, "P21.3", o, form, api.ErrDown)
	}
}

// TestLettersThatSayNothing: of no open instance, of no step, of another participant, or such as the instance does not take.
func TestLettersThatSayNothing(t *testing.T) {
	o := with(t, testConfig(), "a; do b @0; do c @1 <b", "c; ever e @3")
	mustReply(t, "P21.2", o, start("j", "c", 0), api.Reply{Id: 1, Version: 1})
	mustDeliver(t, "P21.3", o, done(3, 1, 0), api.OK)
	mustDeliver(t, "P21.3", o, freed(3, 1), api.OK)
	mustReply(t, "P21.2", o, start("k", "a", 0), api.Reply{Id: 2, Version: 1})
	mustReply(t, "P21.2", o, start("l", "c", 0), api.Reply{Id: 3, Version: 1})
	var nothing []string
	for kind := api.LetterDone; kind <= api.LetterAgain; kind++ {
		nothing = append(nothing, letter(kind, 3, 1, 0), letter(kind, 0, 4, 0), letter(kind, 0, 60, 0), letter(kind, 1, 2, 0), letter(kind, 3, 2, 0), letter(kind, 0, 2, 1), letter(kind, 1, 2, 1), letter(kind, 0, 2, 2), letter(kind, 1, 2, 7))
	}
	nothing = append(nothing, freed(3, 1), freed(0, 4), freed(2, 2), freed(0, 2), freed(1, 2), freed(0, 3), freed(3, 3), undone(0, 2, 0), letter(api.LetterAgain, 0, 2, 0), letter(api.LetterAgain, 3, 3, 0), letter(api.LetterNo, 3, 3, 0), letter(api.LetterBusy, 3, 3, 0), undone(3, 3, 0))
	for _, form := range nothing {
		mustDeliver(t, "P21.3", o, form, api.OK)
	}
	mustSync(t, "P21.3", o, nil)
	mustStand(t, "P21.3", o, 2, api.Forward, 0, 1, 0)
	mustStand(t, "P21.3", o, 3, api.Completing, 0, 1)
	// A letter that comes twice says nothing the second time.
	for range 2 {
		mustDeliver(t, "P21.3", o, done(0, 2, 0), api.OK)
	}
	mustSync(t, "P21.3", o, []string{do(1, 2, 1, 1)}, mark(2, 0, api.StepDone), issue(2, 1))
}

func TestAnswers(t *testing.T) {
	for _, c := range []struct {
		kind, state, phase, cause int
	}{{api.LetterDone, api.StepDone, api.Forward, 0}, {api.LetterNo, api.StepNo, api.Backward, api.CauseRefused}, {api.LetterBusy, api.StepBusy, api.Backward, api.CauseBusy}} {
		o := with(t, testConfig(), "a; do b @2; do c @1")
		mustReply(t, "P21.2", o, start("k", "a", 0), api.Reply{Id: 1, Version: 1})
		mustDeliver(t, "P21.3", o, letter(c.kind, 2, 1, 0), api.OK)
		want := []string{undo(1, 1, 1)}
		if c.kind == api.LetterDone {
			want = nil
		}
		mustSync(t, "P21.3", o, want, mark(1, 0, c.state))
		mustStand(t, "P21.3", o, 1, c.phase, c.cause, c.state, 1)
	}
}

// TestFreed: an instance is closed when all have let go, in whichever order.
func TestFreed(t *testing.T) {
	for _, order := range [][]int{{0, 2, 3}, {3, 2, 0}, {2, 0, 3}} {
		o := with(t, testConfig(), "a; ever b @2; ever c @0; ever d @3; ever e @0")
		mustCall(t, "P21.2", o, start("k", "a", 0), api.OK)
		for step, part := range []int{2, 0, 3, 0} {
			mustDeliver(t, "P21.3", o, done(part, 1, step), api.OK)
		}
		o.Sync()
		for i, part := range order {
			if live, _ := o.quota.Left(); live != 1 {
				t.Errorf("P21.3: %d are live", live)
			}
			mustDeliver(t, "P21.3", o, freed(part, 1), api.OK)
			mustDeliver(t, "P21.3", o, freed(part, 1), api.OK)
			mustSync(t, "P21.3", o, nil, noteFreed(1, part))
			if i < 2 {
				mustStand(t, "P21.3", o, 1, api.Committed, 0, 2, 2, 2, 2)
			}
		}
		mustStand(t, "P21.3", o, 1, api.Committed, 0)
		if live, _ := o.quota.Left(); live != 0 {
			t.Errorf("P21.3: %d are live", live)
		}
		if err := o.retry.Moved(1, 0); err != api.ErrArg {
			t.Errorf("P21.3: a closed instance waits still")
		}
		for range 40 {
			mustTick(t, "P21.4", o)
		}
		mustSync(t, "P21.4", o, nil)
	}
}

// ticksOf are the ticks, of so many, behind which something waits to be sent.
func ticksOf(t *testing.T, o *Orch, count int) []int {
	t.Helper()
	var ticks []int
	for tick := 1; tick <= count; tick++ {
		mustTick(t, "P21.4", o)
		if letters, _, _ := o.Sync(); len(letters) > 0 {
			ticks = append(ticks, tick)
		}
	}
	return ticks
}

func mustTicks(t *testing.T, what string, o *Orch, count int, want ...int) {
	t.Helper()
	if ticks := ticksOf(t, o, count); !slices.Equal(ticks, want) {
		t.Errorf("%s: letters are sent at %v, want %v", what, ticks, want)
	}
}

// TestBackoff: from each note of an instance on the delays begin anew; a letter that says nothing changes nothing.
func TestBackoff(t *testing.T) {
	c := testConfig()
	c.Backoff, c.Deadline = []int{2, 3, 5}, 1000
	o := with(t, c, "a; do b @0; do c @1; pivot d @2")
	mustTicks(t, "P21.4", o, 20)
	mustReply(t, "P21.2", o, start("k", "a", 0), api.Reply{Id: 1, Version: 1})
	mustTicks(t, "P21.4", o, 21, 2, 5, 10, 15, 20)
	mustDeliver(t, "P21.3", o, done(0, 1, 0), api.OK)
	mustSync(t, "P21.3", o, nil, mark(1, 0, 2))
	mustTicks(t, "P21.4", o, 6, 2, 5)
	mustDeliver(t, "P21.3", o, done(0, 1, 0), api.OK)
	mustDeliver(t, "P21.3", o, letter(api.LetterAgain, 1, 1, 1), api.OK)
	mustTicks(t, "P21.4", o, 10, 4, 9)
	mustDeliver(t, "P21.3", o, done(1, 1, 1), api.OK)
	mustSync(t, "P21.3", o, []string{do(2, 1, 2, 2)}, mark(1, 1, 2), issue(1, 2))
	mustTicks(t, "P21.4", o, 11, 2, 5, 10)
	// Behind a restart it begins anew, too.
	mustCrash(t, "P21.6", o, 0)
	mustRestart(t, "P21.6", o)
	mustSync(t, "P21.6", o, []string{do(2, 1, 2, 2)})
	mustTicks(t, "P21.6", o, 16, 2, 5, 10, 15)
}

// TestLate: an instance that is late turns back, as long as it is in Forward; it is late once.
func TestLate(t *testing.T) {
	c := testConfig()
	c.Backoff, c.Deadline = []int{100}, 3
	o := with(t, c, "a; do b @0; do c @1 <b")
	mustReply(t, "P21.2", o, start("k", "a", 0), api.Reply{Id: 1, Version: 1})
	mustTick(t, "P21.4", o)
	mustDeliver(t, "P21.3", o, done(0, 1, 0), api.OK)
	mustReply(t, "P21.2", o, start("l", "a", 0), api.Reply{Id: 2, Version: 1})
	mustTick(t, "P21.4", o)
	mustSync(t, "P21.4", o, nil)
	// That it moved on has not changed when it is late.
	mustTick(t, "P21.4", o)
	mustSync(t, "P21.4", o, []string{undo(1, 1, 1)}, note(api.NoteLate, 1))
	mustStand(t, "P21.4", o, 1, api.Backward, api.CauseLate, 2, 1)
	mustStand(t, "P21.4", o, 2, api.Forward, 0, 1, 0)
	mustTick(t, "P21.4", o)
	mustSync(t, "P21.4", o, []string{undo(0, 2, 0)}, note(api.NoteLate, 2))
	for range 20 {
		mustTick(t, "P21.4", o)
	}
	mustSync(t, "P21.4", o, nil)
}

// TestLateElsewhere: who is sealed, completing, or back already, is not turned back.
func TestLateElsewhere(t *testing.T) {
	c := testConfig()
	c.Live, c.Backoff, c.Deadline = 4, []int{100}, 2
	o := with(t, c, "a; pivot b @0", "c; ever b @0", "d; do b @0")
	for i, name := range []string{"a", "c", "d"} {
		mustReply(t, "P21.2", o, start(name, name, 0), api.Reply{Id: i + 1, Version: 1})
	}
	mustReply(t, "P21.2", o, cancel(3), api.Reply{Id: 3})
	for range 5 {
		mustTick(t, "P21.4", o)
	}
	mustSync(t, "P21.4", o, nil)
	mustStand(t, "P21.4", o, 1, api.Sealed, 0, 1)
	mustStand(t, "P21.4", o, 2, api.Completing, 0, 1)
	mustStand(t, "P21.4", o, 3, api.Backward, api.CauseCancel, 1)
}

// TestTheOrderOfATick: the late ones first, then all that are due, each rising; who is both has its letters twice.
func TestTheOrderOfATick(t *testing.T) {
	c := testConfig()
	c.Live, c.Backoff, c.Deadline = 4, []int{2}, 4
	o := with(t, c, "a; do b @0", "c; ever b @1; ever c @2")
	mustCall(t, "P21.2", o, start("k", "c", 0), api.OK)
	mustCall(t, "P21.2", o, start("l", "a", 0), api.OK)
	mustCall(t, "P21.2", o, start("m", "c", 0), api.OK)
	mustCall(t, "P21.2", o, start("n", "a", 0), api.OK)
	o.Sync()
	mustTicks(t, "P21.4", o, 3, 2)
	mustTick(t, "P21.4", o)
	mustSync(t, "P21.4", o, []string{
		undo(0, 2, 0), undo(0, 4, 0),
		do(1, 1, 0, 3), do(2, 1, 1, 3), undo(0, 2, 0), do(1, 3, 0, 3), do(2, 3, 1, 3), undo(0, 4, 0),
	}, note(api.NoteLate, 2), note(api.NoteLate, 4))
	mustCall(t, "P21.4", o, cancel(2), api.OK)
	mustTick(t, "P21.4", o)
	mustSync(t, "P21.4", o, nil)
}

// TestTheLastTick: the clock does not go past it, and what is due is due at each tick then.
func TestTheLastTick(t *testing.T) {
	o := with(t, testConfig(), plain)
	o.now = api.MaxTick - 2
	mustReply(t, "P21.2", o, start("k", "a", 0), api.Reply{Id: 1, Version: 1})
	mustTick(t, "P21.4", o)
	mustSync(t, "P21.4", o, []string{do(0, 1, 0, 1)})
	mustTick(t, "P21.4", o)
	mustSync(t, "P21.4", o, []string{undo(0, 1, 0), undo(0, 1, 0)}, note(api.NoteLate, 1))
	for range 5 {
		mustTick(t, "P21.4", o)
		mustSync(t, "P21.4", o, []string{undo(0, 1, 0)})
	}
	if o.now != api.MaxTick {
		t.Errorf("P21.4: it is %d", o.now)
	}
}

// roomFor is a configuration whose disk has room for just these notes.
func roomFor(notes ...api.Note) api.Config {
	c := testConfig()
	c.Rooms[4] = headBytes
	for _, n := range notes {
		c.Rooms[4] += frameBytes + len(noteForm(n))
	}
	return c
}

// less is a configuration with a byte less of room.
func less(c api.Config) api.Config {
	c.Rooms[4]--
	return c
}

// TestNoRoomToRegister: what is not noted is not put in.
func TestNoRoomToRegister(t *testing.T) {
	c := roomFor(noteDef(plain))
	with(t, c, plain)
	o := mustNew(t, less(c))
	for range 2 {
		mustRefuse(t, "P21.2", o, register(plain), api.ErrDiskFull)
	}
	mustRefuse(t, "P21.2", o, start("k", "a", 0), api.ErrRegistryNone)
	// What is known needs no room.
	o = with(t, c, plain)
	mustReply(t, "P21.2", o, register(plain), api.Reply{Version: 1})
	mustRefuse(t, "P21.2", o, register("a; do c @0"), api.ErrDiskFull)
	mustRefuse(t, "P21.2", o, register("a"), api.ErrCheckSteps)
}

// TestNoRoomToStart: the quota is as it was, and the key is nobody's.
func TestNoRoomToStart(t *testing.T) {
	c := roomFor(noteDef(plain), noteStart(1, "kk", "a", 1))
	c.Orch, c.Parts, c.Live = 7, [4]int{3}, 1
	o := with(t, less(c), plain)
	for range 3 {
		mustRefuse(t, "P21.2", o, start("kk", "a", 0), api.ErrDiskFull)
	}
	mustReply(t, "P21.2", o, list, api.Reply{})
	mustTicks(t, "P21.4", o, 12)
	// A shorter key has room, and the budget is there still.
	mustReply(t, "P21.2", o, start("k", "a", 0), api.Reply{Id: 1, Version: 1})
	mustRefuse(t, "P21.2", o, start("l", "a", 0), api.ErrQuotaLive)
	mustReply(t, "P21.2", o, start("k", "a", 0), api.Reply{Id: 1, Version: 1})
}

// TestNoRoomToGoOn: what was noted has happened, and what is wanted then goes out, though the next note has no room.
func TestNoRoomToGoOn(t *testing.T) {
	two := "a; do b @0; do c @1"
	notes := []api.Note{noteStart(1, "k", "a", 1), issue(1, 0)}
	for _, known := range []int{1, 2} {
		c := roomFor(append(notes[:known:known], noteDef(two))...)
		o := with(t, c, two)
		letters, told := mustReply(t, "P21.2", o, start("k", "a", 0), api.Reply{Id: 1, Version: 1})
		var want []string
		if known == 2 {
			want = []string{do(0, 1, 0, 1)}
		}
		if !slices.Equal(letters, want) || !slices.Equal(told, notes[:known]) {
			t.Errorf("P21.2: %q, %v", letters, told)
		}
		stands := func() {
			t.Helper()
			mustStand(t, "P21.2", o, 1, api.Forward, 0, known-1, 0)
		}
		stands()
		mustRefuse(t, "P21.2", o, cancel(1), api.ErrDiskFull)
		// Its being late has no room, either; its letters are sent again.
		ticks := []int{1, 3, 5, 7, 9, 11, 13, 15}
		mustTicks(t, "P21.4", o, 16, ticks[:len(ticks)*(known-1)]...)
		stands()
		mustCompact(t, "P21.7", o, api.ErrDiskFull)
		stands()
		mustCrash(t, "P21.6", o, 0)
		mustRestart(t, "P21.6", o)
		mustSync(t, "P21.6", o, want)
		stands()
	}
}

// TestNoRoomToEnd: all is undone, but that it is aborted has no room.
func TestNoRoomToEnd(t *testing.T) {
	c := roomFor(noteDef(plain), noteStart(1, "k", "a", 1), issue(1, 0), mark(1, 0, api.StepNo))
	o := with(t, c, plain)
	mustReply(t, "P21.2", o, start("k", "a", 0), api.Reply{Id: 1, Version: 1})
	mustDeliver(t, "P21.3", o, letter(api.LetterNo, 0, 1, 0), api.OK)
	mustSync(t, "P21.3", o, nil, mark(1, 0, api.StepNo))
	mustTicks(t, "P21.4", o, 20)
	mustStand(t, "P21.4", o, 1, api.Backward, api.CauseRefused, api.StepNo)
	mustReply(t, "P21.2", o, cancel(1), api.Reply{Id: 1})
}

// TestNoRoomForFreed: the instance is not closed, and asks again.
func TestNoRoomForFreed(t *testing.T) {
	c := roomFor(noteDef(plain), noteStart(1, "k", "a", 1), issue(1, 0), mark(1, 0, api.StepNo), note(api.NoteEnd, 1), noteFreed(1, 0))
	for _, full := range []bool{false, true} {
		if full {
			c = less(c)
		}
		o := with(t, c, plain)
		mustReply(t, "P21.2", o, start("k", "a", 0), api.Reply{Id: 1, Version: 1})
		mustDeliver(t, "P21.3", o, letter(api.LetterNo, 0, 1, 0), api.OK)
		mustSync(t, "P21.3", o, []string{free(0, 1)}, mark(1, 0, api.StepNo), note(api.NoteEnd, 1))
		if !full {
			mustDeliver(t, "P21.3", o, freed(0, 1), api.OK)
			mustTicks(t, "P21.4", o, 9)
			continue
		}
		mustDeliver(t, "P21.3", o, freed(0, 1), api.ErrDiskFull)
		mustTicks(t, "P21.4", o, 4, 1, 3)
		if live, _ := o.quota.Left(); live != 1 {
			t.Errorf("P21.3: %d are live", live)
		}
	}
}

// TestNoRoomForALetter: what it says is not noted, and nothing has changed by it.
func TestNoRoomForALetter(t *testing.T) {
	c := roomFor(noteDef(plain), noteStart(1, "k", "a", 1), issue(1, 0), mark(1, 0, 2))
	o := with(t, less(c), plain)
	mustReply(t, "P21.2", o, start("k", "a", 0), api.Reply{Id: 1, Version: 1})
	mustDeliver(t, "P21.3", o, done(0, 1, 0), api.ErrDiskFull)
	mustDeliver(t, "P21.3", o, letter(api.LetterNo, 0, 1, 0), api.ErrDiskFull)
	// What says nothing needs no room.
	mustDeliver(t, "P21.3", o, undone(0, 1, 0), api.OK)
	mustDeliver(t, "P21.3", o, letter(api.LetterAgain, 0, 1, 0), api.OK)
	mustDeliver(t, "P21.3", o, done(1, 1, 0), api.OK)
	mustDeliver(t, "P21.3", o, "x", api.ErrArg)
	mustSync(t, "P21.3", o, nil)
	mustStand(t, "P21.3", o, 1, api.Forward, 0, 1)
	// The cancel's note is shorter by two bytes.
	mustReply(t, "P21.2", o, cancel(1), api.Reply{Id: 1})
	mustStand(t, "P21.2", o, 1, api.Backward, api.CauseCancel, 1)
}

// TestCompact: definitions first, then the instances, each as short as it can be told.
func TestCompact(t *testing.T) {
	o := mustNew(t, testConfig())
	mustCompact(t, "P21.7", o, api.OK)
	mustList(t, o)
	mustCrash(t, "P21.6", o, 0)
	mustRestart(t, "P21.6", o)
	two := "b; do b @0; do c @1 <b"
	for _, text := range []string{two, plain} {
		mustReply(t, "P21.2", o, register(text), api.Reply{Version: 1})
	}
	mustReply(t, "P21.2", o, register("b; pivot p @0"), api.Reply{Version: 2})
	mustCall(t, "P21.2", o, start("k", "a", 0), api.OK)
	mustDeliver(t, "P21.3", o, letter(api.LetterNo, 0, 1, 0), api.OK)
	mustDeliver(t, "P21.3", o, freed(0, 1), api.OK)
	mustCall(t, "P21.2", o, start("l", "b", 1), api.OK)
	mustDeliver(t, "P21.3", o, done(0, 2, 0), api.OK)
	mustCall(t, "P21.2", o, start("m", "b", 0), api.OK)
	mustDeliver(t, "P21.3", o, done(0, 3, 0), api.OK)
	mustCall(t, "P21.2", o, cancel(2), api.OK)
	mustDeliver(t, "P21.3", o, undone(1, 2, 1), api.OK)
	mustCompact(t, "P21.7", o, api.ErrOrchQueue)
	o.Sync()
	want := []api.Note{
		noteDef(two), noteDef(plain), noteDef("b; pivot p @0"),
		noteStart(1, "k", "a", 1), {Kind: api.NoteBrief, Inst: 1, State: api.Aborted, Cause: api.CauseRefused},
		noteStart(2, "l", "b", 1), issue(2, 0), mark(2, 0, 2), issue(2, 1), note(api.NoteCancel, 2), mark(2, 1, 5),
		noteStart(3, "m", "b", 2), issue(3, 0), mark(3, 0, 2), note(api.NoteEnd, 3),
	}
	before := o.Insts()
	for range 3 {
		mustCompact(t, "P21.7", o, api.OK)
		mustList(t, o, want...)
		mustSync(t, "P21.7", o, nil)
	}
	_, left := o.quota.Left()
	mustCrash(t, "P21.6", o, 0)
	mustRestart(t, "P21.6", o)
	mustSync(t, "P21.6", o, []string{undo(0, 2, 0), free(0, 3)})
	if after := o.Insts(); !slices.EqualFunc(after, before, alikeInst) {
		t.Errorf("P21.6: the instances %v, want %v", after, before)
	}
	if live, now := o.quota.Left(); live != 2 || now != left {
		t.Errorf("P21.6: %d are live, %v is left, want %v", live, now, left)
	}
	mustReply(t, "P21.6", o, register(two), api.Reply{Version: 3})
}

// TestCompactQueue: whatever waits, alone.
func TestCompactQueue(t *testing.T) {
	o := with(t, testConfig(), plain)
	refused := func(what string) {
		t.Helper()
		before := o.Disk()
		mustCompact(t, what, o, api.ErrOrchQueue)
		if after := o.Disk(); after.Used() != before.Used() {
			t.Errorf("R3: %s: a Compact that is refused made %d bytes of %d", what, after.Used(), before.Used())
		}
		o.Sync()
		mustCompact(t, what, o, api.OK)
	}
	mustCall(t, "P21.2", o, list, api.OK)
	refused("P21.7: a reply")
	mustCall(t, "P21.2", o, start("k", "a", 0), api.OK)
	o.Sync()
	mustTick(t, "P21.4", o)
	refused("P21.7: a letter")
	mustDeliver(t, "P21.3", o, done(0, 1, 0), api.OK)
	o.Sync()
	mustDeliver(t, "P21.3", o, freed(0, 1), api.OK)
	refused("P21.7: a note")
	mustCall(t, "P21.2", o, start("l", "a", 0), api.OK)
	o.Sync()
	mustCrash(t, "P21.6", o, 0)
	mustRestart(t, "P21.6", o)
	refused("P21.7: the letters of a restart")
}

// TestCompactWithoutRoom: all stays as it is.
func TestCompactWithoutRoom(t *testing.T) {
	c := roomFor(noteDef(trip))
	need := headBytes + 2 + len(noteForm(noteDef(trip)))
	c.Rooms[4] += need
	o := with(t, c, trip)
	mustCompact(t, "P21.7", o, api.OK)
	c.Rooms[4]--
	o = with(t, c, trip)
	before, _ := o.Disk().Read(0)
	mustCompact(t, "P21.7", o, api.ErrDiskFull)
	after, _ := o.Disk().Read(0)
	other, _ := o.Disk().Read(1)
	if after != before || other != "" || len(o.Defs()) != 1 {
		t.Errorf("P21.7: a Compact that is refused makes %q and %q of %q", after, other, before)
	}
	mustCrash(t, "P21.6", o, 0)
	mustRestart(t, "P21.6", o)
	if len(o.Defs()) != 1 {
		t.Errorf("P21.6: the definitions %v", o.Defs())
	}
}

// TestRestart: the letters are all that is wanted, each once, and no others; what the notes leave to do is noted.
func TestRestart(t *testing.T) {
	c := testConfig()
	c.Live = 4
	o := with(t, c, "a; do b @0; do c @1; do d @2 <b")
	for i, key := range []string{"k", "l", "m", "n"} {
		mustReply(t, "P21.2", o, start(key, "a", 0), api.Reply{Id: i + 1, Version: 1})
	}
	mustReply(t, "P21.2", o, cancel(3), api.Reply{Id: 3})
	o.Sync()
	mustDeliver(t, "P21.3", o, undone(0, 3, 0), api.OK)
	mustDeliver(t, "P21.3", o, undone(1, 3, 1), api.OK)
	mustDeliver(t, "P21.3", o, done(0, 4, 0), api.OK)
	told := []api.Note{mark(3, 0, 5), mark(3, 1, 5)}
	// NoteEnd of 3 has 11 bytes, and one of them lacks.
	mustCrash(t, "P21.6", o, 13+13+10, told...)
	mustRestart(t, "P21.6", o)
	mustStand(t, "P21.6", o, 3, api.Aborted, api.CauseCancel, 5, 5, 0)
	mustSync(t, "P21.6", o, []string{
		do(0, 1, 0, 1), do(1, 1, 1, 1), do(0, 2, 0, 1), do(1, 2, 1, 1), free(0, 3), free(1, 3), free(2, 3), do(0, 4, 0, 1), do(1, 4, 1, 1),
	}, note(api.NoteEnd, 3))
	// What it noted by itself is kept, too.
	mustCrash(t, "P21.6", o, 0)
	mustRestart(t, "P21.6", o)
	mustStand(t, "P21.6", o, 3, api.Aborted, api.CauseCancel, 5, 5, 0)
	if letters, _, notes := o.Sync(); len(letters) != 9 || len(notes) > 0 {
		t.Errorf("P21.6: %q, %v", letters, notes)
	}
}

// TestRestartThatIsLost: what a restart notes is not safe, and is noted again.
func TestRestartThatIsLost(t *testing.T) {
	o := with(t, testConfig(), plain)
	mustReply(t, "P21.2", o, start("k", "a", 0), api.Reply{Id: 1, Version: 1})
	mustDeliver(t, "P21.3", o, done(0, 1, 0), api.OK)
	mustCrash(t, "P21.6", o, 13, mark(1, 0, 2))
	for range 3 {
		mustRestart(t, "P21.6", o)
		mustStand(t, "P21.6", o, 1, api.Committed, 0, 2)
		mustCrash(t, "P21.6", o, 10)
	}
	mustRestart(t, "P21.6", o)
	mustCrash(t, "P21.6", o, 11, note(api.NoteEnd, 1))
	mustRestart(t, "P21.6", o)
	mustSync(t, "P21.6", o, []string{free(0, 1)})
}

// TestTimeBehindARestart: it is 0 again, and who is open begins to wait anew.
func TestTimeBehindARestart(t *testing.T) {
	c := testConfig()
	c.Deadline, c.Backoff = 4, []int{3}
	o := with(t, c, plain)
	mustReply(t, "P21.2", o, start("k", "a", 0), api.Reply{Id: 1, Version: 1})
	mustTicks(t, "P21.4", o, 3, 3)
	mustCrash(t, "P21.6", o, 0)
	mustRestart(t, "P21.6", o)
	if o.now != 0 {
		t.Errorf("P21.6: it is %d", o.now)
	}
	mustSync(t, "P21.6", o, []string{do(0, 1, 0, 1)})
	mustTicks(t, "P21.6", o, 3, 3)
	mustStand(t, "P21.6", o, 1, api.Forward, 0, 1)
	mustTick(t, "P21.4", o)
	mustSync(t, "P21.4", o, []string{undo(0, 1, 0)}, note(api.NoteLate, 1))
}

// TestDown: a node that is down refuses all, and tells nothing.
func TestDown(t *testing.T) {
	o := with(t, testConfig(), plain)
	mustReply(t, "P21.2", o, start("k", "a", 0), api.Reply{Id: 1, Version: 1})
	if err := o.Restart(); err != api.ErrArg {
		t.Errorf("P21.6: Restart of what is up = %d, want ErrArg", err)
	}
	mustCall(t, "P21.2", o, list, api.OK)
	mustCrash(t, "P21.6", o, 0)
	for range 2 {
		if notes, err := o.Crash(math.MaxInt); len(notes) > 0 || err != api.ErrDown {
			t.Errorf("P21.6: Crash of what is down = %v, %d", notes, err)
		}
		mustCall(t, "P21.2", o, list, api.ErrDown)
		mustDeliver(t, "P21.3", o, done(0, 1, 0), api.ErrDown)
		mustCompact(t, "P21.7", o, api.ErrDown)
		if err := o.Tick(); err != api.ErrDown {
			t.Errorf("P21.4: Tick of what is down = %d", err)
		}
		letters, replies, notes := o.Sync()
		if len(letters)+len(replies)+len(notes) > 0 {
			t.Errorf("P21.5: Sync of what is down = %q, %v, %v", letters, replies, notes)
		}
		if o.Up() || len(o.Insts()) > 0 || len(o.Defs()) > 0 {
			t.Errorf("P21.8: it is up, or tells %v and %v", o.Insts(), o.Defs())
		}
	}
	mustRestart(t, "P21.6", o)
	// The reply that waited is gone.
	letters, replies, notes := o.Sync()
	if len(letters) != 1 || len(replies)+len(notes) > 0 || len(o.Insts()) != 1 || len(o.Defs()) != 1 {
		t.Errorf("P21.6: %q, %v, %v", letters, replies, notes)
	}
}

// TestTornBytesStandTillTheRestart: of a node that is down Disk tells what the crash left.
func TestTornBytesStandTillTheRestart(t *testing.T) {
	o := with(t, testConfig(), plain)
	before := o.Disk().Used()
	mustCall(t, "P21.2", o, start("k", "a", 0), api.OK)
	mustCrash(t, "P21.6", o, 7)
	if used := o.Disk().Used(); used != before+7 {
		t.Errorf("P21.6: the disk has %d bytes, want %d", used, before+7)
	}
	mustRestart(t, "P21.6", o)
	if used := o.Disk().Used(); used != before {
		t.Errorf("P21.6: the disk has %d bytes, want %d", used, before)
	}
	mustSync(t, "P21.6", o, nil)
	// What was never safe was never told: its key and its number are free.
	mustReply(t, "P21.6", o, start("l", "a", 0), api.Reply{Id: 1, Version: 1})
}

// TestToldIsSafe: P4 and P21.9: behind a Sync a crash takes nothing away and tells nothing, whatever it keeps.
func TestToldIsSafe(t *testing.T) {
	for _, keep := range []int{math.MinInt, -1, 0, 1, 1000, math.MaxInt} {
		o := with(t, testConfig(), trip)
		mustReply(t, "P21.2", o, start("k", "trip", 0), api.Reply{Id: 1, Version: 1})
		mustDeliver(t, "P21.3", o, done(1, 1, 0), api.OK)
		mustReply(t, "P21.2", o, cancel(1), api.Reply{Id: 1})
		before := o.Insts()
		for range 2 {
			mustCrash(t, "P21.9", o, keep)
			mustRestart(t, "P21.9", o)
			mustSync(t, "P21.9", o, []string{undo(0, 1, 1)})
			if after := o.Insts(); !slices.EqualFunc(after, before, alikeInst) || len(o.Defs()) != 1 {
				t.Errorf("P21.9: the instances %v, want %v", after, before)
			}
		}
	}
}

// longText is of eight steps with the longest names, two keys each, each needing all that stand ahead of it.
func longText(kind string) string {
	text := "ωωωωωωωω"
	letters := []rune("αβγδεζηθικλμνξοπ")
	for i, letter := range letters[:8] {
		text += "; " + kind + " ωωωωωωω" + string(letter) + " @" + string(rune('0'+i%4))
		keys := 0
		for _, last := range letters {
			if key := "ωωωωωωω" + string(last); keys < 2 && name.Owner(key) == i%4 {
				text += " +" + key
				keys++
			}
		}
		for _, need := range letters[:i] {
			text += " <ωωωωωωω" + string(need)
		}
	}
	return text
}

// TestAllThatMayBe: sixteen of the longest definitions, and twelve instances, all on a disk of just the room that they are told to need.
func TestAllThatMayBe(t *testing.T) {
	c := testConfig()
	c.Live, c.Orch, c.Parts, c.Deadline = 12, 12*(3+8*3+4), [4]int{1000, 1000, 1000, 1000}, 10000
	o := mustNew(t, roomy(t, c))
	for i := range 16 {
		text := longText("do")
		if i%2 == 1 {
			text = strings.ReplaceAll(text, "; do ωωωωωωωθ", "; pivot ωωωωωωωθ")
		}
		mustReply(t, "P21.9", o, register(text), api.Reply{Version: i + 1})
	}
	for id := 1; id <= 12; id++ {
		mustReply(t, "P21.9", o, start("ωωωωωωω"+string(rune('α'+id)), "ωωωωωωωω", 15), api.Reply{Id: id, Version: 15})
	}
	mustRefuse(t, "P21.9", o, start("k", "ωωωωωωωω", 15), api.ErrQuotaLive)
	for step := range 7 {
		for id := 1; id <= 12; id++ {
			mustDeliver(t, "P21.9", o, done(step%4, id, step), api.OK)
		}
		o.Sync()
		mustCompact(t, "P21.9", o, api.OK)
	}
	for id := 1; id <= 12; id++ {
		mustReply(t, "P21.9", o, cancel(id), api.Reply{Id: id})
	}
	mustCrash(t, "P21.9", o, 0)
	mustRestart(t, "P21.9", o)
	closeAll(t, o)
	mustCompact(t, "P21.9", o, api.OK)
	mustStand(t, "P21.9", o, 12, api.Aborted, api.CauseCancel)
	mustRefuse(t, "P21.9", o, start("k", "ωωωωωωωω", 15), api.ErrQuotaOrch)
}

// spoilInst writes into all memory of an instance.
func spoilInst(x *api.Inst) {
	for i := range x.Steps[:cap(x.Steps)] {
		x.Steps[:cap(x.Steps)][i] = 77
	}
	*x = api.Inst{}
}

// TestAnswersAreNew: R5, what is told shares nothing with what is kept, its spare room neither.
func TestAnswersAreNew(t *testing.T) {
	o := with(t, testConfig(), "a; do b @0 +d; do c @1 <b")
	for _, r := range []api.Request{start("k", "a", 0), query(1), list, query(1)} {
		mustCall(t, "P21.2", o, r, api.OK)
	}
	letters, replies, notes := o.Sync()
	mustCall(t, "P21.2", o, query(1), api.OK)
	mustTick(t, "P21.4", o)
	mustDeliver(t, "P21.3", o, done(0, 1, 0), api.OK)
	spoilInst(&replies[1].Inst)
	if !slices.Equal(replies[3].Inst.Steps, []int{1, 0}) {
		t.Errorf("R5: two replies share their steps: %v", replies[3])
	}
	for i := range letters[:cap(letters)] {
		letters[:cap(letters)][i] = "spoilt"
	}
	for i := range notes[:cap(notes)] {
		notes[:cap(notes)][i] = api.Note{}
	}
	for i := range replies[:cap(replies)] {
		replies[:cap(replies)][i] = api.Reply{}
	}
	insts, defs := o.Insts(), o.Defs()
	for i := range insts {
		spoilInst(&insts[i])
	}
	defs[0].Steps[0].Keys[0], defs[0].Steps[1].Needs[0] = "spoilt", 7
	mustStand(t, "R5", o, 1, api.Forward, 0, 2, 1)
	if defs := o.Defs(); defs[0].Steps[0].Keys[0] != "d" || defs[0].Steps[1].Needs[0] != 0 {
		t.Errorf("R5: Defs shares its lists: %v", defs)
	}
	d := o.Disk()
	d.Cut(0, 0)
	d.Append(1, "spoilt")
	letters, replies, notes = o.Sync()
	x := api.Inst{Id: 1, Key: "k", Name: "a", Version: 1, Phase: api.Forward, Steps: []int{1, 0}}
	if !slices.EqualFunc(replies, []api.Reply{{Kind: api.RequestQuery, Id: 1, Inst: x}}, alikeReply) {
		t.Errorf("R5: the replies %v", replies)
	}
	if !slices.Equal(letters, []string{do(0, 1, 0, 1, "d"), do(1, 1, 1, 1)}) || !slices.Equal(notes, []api.Note{mark(1, 0, 2), issue(1, 1)}) {
		t.Errorf("R5: %q, %v", letters, notes)
	}
	mustCrash(t, "R5", o, 0)
	mustRestart(t, "R5", o)
	mustStand(t, "R5", o, 1, api.Forward, 0, 2, 1)
}

// TestWhatWasToldStays: R5, what is told later is told in other memory.
func TestWhatWasToldStays(t *testing.T) {
	o := with(t, testConfig(), plain)
	for _, r := range []api.Request{start("k", "a", 0), query(1), list} {
		mustCall(t, "P21.2", o, r, api.OK)
	}
	disk := o.Disk()
	used := disk.Used()
	insts := o.Insts()
	letters, replies, notes := o.Sync()
	for _, r := range []api.Request{cancel(1), start("l", "a", 0), list, query(1)} {
		mustCall(t, "P21.2", o, r, api.OK)
	}
	told, _ := o.Crash(11)
	mustRestart(t, "P21.6", o)
	mustCall(t, "P21.2", o, start("m", "a", 0), api.OK)
	o.Sync()
	x := api.Inst{Id: 1, Key: "k", Name: "a", Version: 1, Phase: api.Forward, Steps: []int{1}}
	want := []api.Reply{{Kind: api.RequestStart, Id: 1, Version: 1}, {Kind: api.RequestQuery, Id: 1, Inst: x}, {Kind: api.RequestList, Rows: []api.Row{{Id: 1, Phase: 1}}}}
	if !slices.EqualFunc(replies, want, alikeReply) || !slices.Equal(letters, []string{do(0, 1, 0, 1)}) || !alikeInst(insts[0], x) {
		t.Errorf("R5: what was told is %v, %q, %v now", replies, letters, insts)
	}
	if !slices.Equal(notes, []api.Note{noteStart(1, "k", "a", 1), issue(1, 0)}) || !slices.Equal(told, []api.Note{note(api.NoteCancel, 1)}) {
		t.Errorf("R5: the notes that were told are %v and %v now", notes, told)
	}
	if disk.Used() != used {
		t.Errorf("R5: a disk that was handed out has %d bytes, not %d", disk.Used(), used)
	}
}

// TestWhatWasToldIsCleared: R5, the rows in which it waited have nothing of it any more.
func TestWhatWasToldIsCleared(t *testing.T) {
	o := with(t, testConfig(), plain)
	for _, r := range []api.Request{start("k", "a", 0), query(1), list, cancel(1)} {
		mustCall(t, "P21.2", o, r, api.OK)
	}
	o.Sync()
	for _, letter := range o.waits.letters[:2] {
		if letter != "" {
			t.Errorf("R5: the letter %q is kept", letter)
		}
	}
	for _, reply := range o.waits.replies[:4] {
		if reply.Kind != 0 || reply.Inst.Steps != nil || reply.Rows != nil {
			t.Errorf("R5: the reply %v is kept", reply)
		}
	}
	for _, n := range o.waits.notes[:3] {
		if n != (api.Note{}) {
			t.Errorf("R5: the note %v is kept", n)
		}
	}
}

// TestWhatIsHandedInIsNotKept: R5, of the backoff's numbers.
func TestWhatIsHandedInIsNotKept(t *testing.T) {
	c := testConfig()
	c.Backoff, c.Deadline = append(make([]int, 0, 8), 2, 3), 1000
	o := with(t, c, plain)
	mustReply(t, "P21.2", o, start("k", "a", 0), api.Reply{Id: 1, Version: 1})
	for i := range c.Backoff[:8] {
		c.Backoff[:8][i] = -1
	}
	mustTicks(t, "R5", o, 9, 2, 5, 8)
	mustCrash(t, "R5", o, 0)
	mustRestart(t, "R5", o)
	o.Sync()
	mustTicks(t, "R5", o, 9, 2, 5, 8)
}

// TestObjects: R5, nodes know nothing of one another.
func TestObjects(t *testing.T) {
	a, b := with(t, testConfig(), plain), mustNew(t, testConfig())
	mustCall(t, "R5", a, start("k", "a", 0), api.OK)
	mustRefuse(t, "R5", b, start("k", "a", 0), api.ErrRegistryNone)
	mustCrash(t, "R5", b, 0)
	mustSync(t, "R5", a, []string{do(0, 1, 0, 1)}, noteStart(1, "k", "a", 1), issue(1, 0))
	mustRestart(t, "R5", b)
	if len(b.Insts())+len(b.Defs()) > 0 || len(a.Insts()) != 1 {
		t.Errorf("R5: %v, %v", a.Insts(), b.Insts())
	}
}

// mustList opens a copy of the node's disk: the snapshot lists these notes, and no records stand behind it.
func mustList(t *testing.T, o *Orch, want ...api.Note) {
	t.Helper()
	j, snap, records, err := journal.Open(o.Disk())
	if err != api.OK || len(records) > 0 {
		t.Fatalf("P21.7: the journal has the records %q, %d", records, err)
	}
	list := string([]byte{byte(len(want))})
	for _, n := range want {
		form := noteForm(n)
		list += string([]byte{byte(len(form))}) + form
	}
	if gen, _, _ := j.Stat(); snap != list || gen < 2 {
		t.Errorf("P21.7: the snapshot %d is %q, want %q", gen, snap, list)
	}
}

func roomy(t *testing.T, c api.Config) api.Config {
	t.Helper()
	room, err := cost.Room(4, c.Orch)
	if err != api.OK {
		t.Fatalf("cost.Room = %d", err)
	}
	c.Rooms[4] = room
	return c
}
