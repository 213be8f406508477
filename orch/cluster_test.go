package orch

import (
	"slices"
	"testing"

	"odyssey/api"
	"odyssey/codec"
	"odyssey/cost"
	"odyssey/part"
	"odyssey/phase"
)

// cluster is the orchestrator among four participants, with all that is under way, and all that was told ever.
type cluster struct {
	t      *testing.T
	o      *Orch
	parts  [4]*part.Part
	under  []string
	notes  []api.Note
	events [4][]api.Event
	keys   map[string]int // the id that a client's key was told
}

func newCluster(t *testing.T, c api.Config) *cluster {
	t.Helper()
	g := &cluster{t: t, keys: map[string]int{}}
	g.o = mustNew(t, roomy(t, c))
	for number := range g.parts {
		room, _ := cost.Room(number, c.Parts[number])
		p, err := part.New(number, room)
		if err != api.OK {
			t.Fatalf("part.New = %d", err)
		}
		g.parts[number] = p
	}
	return g
}

// sync is of a node; the pool has no bound but this one.
func (g *cluster) sync(node int) {
	var letters []string
	if node < 4 {
		var events []api.Event
		letters, events = g.parts[node].Sync()
		g.events[node] = append(g.events[node], events...)
	} else {
		var notes []api.Note
		letters, _, notes = g.o.Sync()
		g.notes = append(g.notes, notes...)
	}
	g.under = append(g.under, letters...)
	if len(g.under) > 200 {
		g.under = g.under[len(g.under)-200:]
	}
}

func (g *cluster) crash(node, keep int) {
	if node < 4 {
		events, _ := g.parts[node].Crash(keep)
		g.events[node] = append(g.events[node], events...)
		return
	}
	notes, _ := g.o.Crash(keep)
	g.notes = append(g.notes, notes...)
}

func (g *cluster) restart(node int) {
	if node < 4 {
		g.parts[node].Restart()
		return
	}
	g.o.Restart()
}

func (g *cluster) deliver(at int, yes bool) {
	g.t.Helper()
	form := g.under[at]
	g.under = slices.Delete(g.under, at, at+1)
	l, _ := codec.ReadLetter(form)
	var err api.Errno
	if l.Kind <= api.LetterFree {
		err = g.parts[l.Part].Deliver(form, yes)
	} else {
		err = g.o.Deliver(form)
	}
	if err != api.OK && err != api.ErrDown {
		g.t.Fatalf("P21.9: Deliver(%q) = %d", form, err)
	}
}

// round is chapter 23's.
func (g *cluster) round() {
	for node := range 5 {
		g.restart(node)
	}
	for range 100000 {
		if len(g.under) == 0 {
			break
		}
		g.deliver(0, true)
		for node := range 5 {
			g.sync(node)
		}
	}
	g.o.Tick()
	for node := range 5 {
		g.sync(node)
	}
}

func (g *cluster) step(m *made) {
	switch k := m.below(40); {
	case k < 4:
		g.o.Call(api.Request{Kind: api.RequestStart, Key: "k" + string(rune('a'+m.below(26))), Name: m.one("a", "b", "c", "d", "e")})
	case k == 4:
		g.o.Call(api.Request{Kind: api.RequestRegister, Text: m.text()})
	case k == 5:
		g.o.Call(api.Request{Kind: api.RequestCancel, Id: 1 + m.below(8)})
	case k < 8:
		g.o.Tick()
	case k == 8:
		g.crash(m.below(5), m.below(60))
	case k < 12:
		g.restart(m.below(5))
	case k == 12 && len(g.under) > 0:
		g.under = slices.Delete(g.under, 0, 1)
	case k == 13 && len(g.under) > 0:
		g.under = append(g.under, g.under[m.below(len(g.under))])
	case k == 14:
		g.o.Compact()
		g.parts[m.below(4)].Compact()
	case k < 26:
		g.sync(m.below(5))
	case len(g.under) > 0:
		g.deliver(m.below(len(g.under)), m.below(8) > 0)
	}
}

// stands are the steps of an instance that stand done by what was told.
func (g *cluster) stands(id int) []int {
	var steps []int
	for _, events := range g.events {
		for _, e := range events {
			switch {
			case e.Inst == id && e.Kind == api.EventDo:
				steps = append(steps, e.Step)
			case e.Inst == id && e.Kind == api.EventUndo:
				steps = slices.DeleteFunc(steps, func(step int) bool { return step == e.Step })
			}
		}
	}
	slices.Sort(steps)
	return steps
}

// check is P1, P4 and P5 of all that was told.
func (g *cluster) check() {
	g.t.Helper()
	s := newSlow(api.Config{})
	for i, n := range g.notes {
		if n.Kind != api.NoteDef && slices.Contains(g.notes[:i], n) {
			g.t.Fatalf("P5: the note %v is told twice", n)
		}
		s.happen(n)
	}
	if insts := g.o.Insts(); g.o.Up() && !slices.EqualFunc(insts, s.insts, alikeInst) {
		g.t.Fatalf("P4: the instances %v, want %v by what was told", insts, s.insts)
	}
	for _, x := range s.insts {
		stands := g.stands(x.Id)
		count := len(s.defOf(x.Id).Steps)
		if x.Phase == api.Committed && len(stands) != count || x.Phase == api.Aborted && len(stands) > 0 {
			g.t.Fatalf("P1: the instance %v of %d steps: %v stand done", x, count, stands)
		}
		if at, is := g.keys[x.Key]; is && at != x.Id {
			g.t.Fatalf("P5: the key %s has %d and %d", x.Key, at, x.Id)
		}
		g.keys[x.Key] = x.Id
	}
}

// TestCluster: P6, whatever happens, so many rounds close every instance.
func TestCluster(t *testing.T) {
	m := made(216)
	committed, aborted := 0, 0
	for run := range 150 {
		c := api.Config{Live: 1 + m.below(12), Orch: 150 + m.below(200), Parts: [4]int{100, 100, 100, 100}, Backoff: []int{1, 1 + m.below(3)}, Deadline: 5 + m.below(40)}
		c.Backoff = append(c.Backoff, c.Backoff[1]+m.below(3))
		g := newCluster(t, c)
		for _, text := range []string{"a; do b @0 +d; do c @1 +a <b", "b; pivot p @2", "c; do b @0; do c @1 <b; pivot p @2; ever e @3", "d; do a @1 +a; pivot b @1 +a; ever c @1 +a; ever d @0", "e; ever e @3; ever f @3 <e"} {
			g.o.Call(api.Request{Kind: api.RequestRegister, Text: text})
		}
		for range 400 {
			g.step(&m)
		}
		for range c.Backoff[2] + 3 {
			g.round()
		}
		g.check()
		for _, x := range g.o.Insts() {
			switch {
			case !phase.Closed(x):
				t.Fatalf("P6: run %d: %v is open still", run, x)
			case x.Phase == api.Committed:
				committed++
			default:
				aborted++
			}
		}
	}
	if committed < 100 || aborted < 100 {
		t.Errorf("%d instances were committed, %d aborted only", committed, aborted)
	}
}
