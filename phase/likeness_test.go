package phase

import (
	"reflect"
	"slices"
	"testing"

	"odyssey/api"
	"odyssey/check"
	"odyssey/codec"
	"odyssey/cost"
	"odyssey/name"
)

// made is a row of numbers that follow a fixed rule.
type made uint64

func (m *made) below(n int) int {
	*m = *m*6364136223846793005 + 1442695040888963407
	return int(uint64(*m) >> 33 % uint64(n))
}

// slow follows the chapter's words one by one, for a definition that may be.
type slow struct {
	d     api.Def
	ahead [8][8]bool // ahead[a][b]: a is ahead of b
	order []int
}

func slowly(d api.Def) *slow {
	s := &slow{d: d}
	for i, step := range d.Steps {
		for _, need := range step.Needs {
			s.ahead[need][i] = true
		}
		for k, other := range d.Steps {
			if step.Kind == 2 && other.Kind == 1 || step.Kind == 3 && other.Kind != 3 {
				s.ahead[k][i] = true
			}
		}
	}
	for range d.Steps {
		for a := range d.Steps {
			for b := range d.Steps {
				for c := range d.Steps {
					s.ahead[a][c] = s.ahead[a][c] || s.ahead[a][b] && s.ahead[b][c]
				}
			}
		}
	}
	for len(s.order) < len(d.Steps) {
		s.order = append(s.order, s.those(func(i int) bool {
			return !slices.Contains(s.order, i) && len(s.those(func(a int) bool { return s.ahead[a][i] && !slices.Contains(s.order, a) })) == 0
		})[0])
	}
	return s
}

func (s *slow) those(ask func(i int) bool) []int {
	var list []int
	for i := range s.d.Steps {
		if ask(i) {
			list = append(list, i)
		}
	}
	return list
}

func (s *slow) each(kind int, x api.Inst, among ...int) bool {
	for i, step := range s.d.Steps {
		if step.Kind == kind && !slices.Contains(among, x.Steps[i]) {
			return false
		}
	}
	return true
}

func (s *slow) kind(kind int) bool {
	return slices.ContainsFunc(s.d.Steps, func(step api.Step) bool { return step.Kind == kind })
}

func (s *slow) named(part int) bool {
	return slices.ContainsFunc(s.d.Steps, func(step api.Step) bool { return step.Part == part })
}

func (s *slow) unfreed(x api.Inst) []int {
	var parts []int
	for part := range 4 {
		if s.named(part) && x.Freed[part] == 0 {
			parts = append(parts, part)
		}
	}
	return parts
}

func (s *slow) brief(x api.Inst) bool {
	cause := x.Phase == 4 && x.Cause == 0 || x.Phase == 6 && x.Cause >= 1 && x.Cause <= 4
	return cause && len(x.Steps) == 0 && x.Freed == [4]int{}
}

func (s *slow) valid(x api.Inst) bool {
	if x.Id < 1 || x.Id > 60 || !name.Is(x.Key) || x.Name != s.d.Name || x.Version < 1 || x.Version > 16 {
		return false
	}
	if s.brief(x) {
		return true
	}
	if len(x.Steps) != len(s.d.Steps) || x.Phase < 1 || x.Phase > 6 {
		return false
	}
	for _, state := range x.Steps {
		if state < 0 || state > 5 {
			return false
		}
	}
	return s.stepsFit(x) && s.freedFits(x) && s.phaseFits(x)
}

func (s *slow) stepsFit(x api.Inst) bool {
	for i, state := range x.Steps {
		for k, other := range x.Steps {
			if state != 0 && s.ahead[k][i] && other != 2 && other != 5 {
				return false
			}
			if state == 5 && s.ahead[i][k] && (other == 1 || other == 2) {
				return false
			}
		}
		kind := s.d.Steps[i].Kind
		if state >= 3 && (x.Phase != 5 && x.Phase != 6 || kind == 3) || state == 5 && kind == 2 {
			return false
		}
	}
	return true
}

func (s *slow) freedFits(x api.Inst) bool {
	for part, freed := range x.Freed {
		if freed < 0 || freed > 1 || freed == 1 && (!s.named(part) || x.Phase != 4 && x.Phase != 6) {
			return false
		}
	}
	return true
}

func (s *slow) phaseFits(x api.Inst) bool {
	switch x.Phase {
	case 1:
		return x.Cause == 0 && s.each(2, x, 0) && s.each(3, x, 0) && (s.kind(2) || !s.each(1, x, 2))
	case 2:
		return x.Cause == 0 && s.each(1, x, 2) && s.kind(2) && s.each(2, x, 1) && s.each(3, x, 0)
	case 3:
		return x.Cause == 0 && s.each(1, x, 2) && s.each(2, x, 2)
	case 4:
		return x.Cause == 0 && s.each(1, x, 2) && s.each(2, x, 2) && s.each(3, x, 2) && len(s.unfreed(x)) > 0
	case 5:
		return s.backFits(x)
	}
	return s.backFits(x) && !slices.Contains(x.Steps, 1) && !slices.Contains(x.Steps, 2) && len(s.unfreed(x)) > 0
}

func (s *slow) backFits(x api.Inst) bool {
	if x.Cause < 1 || x.Cause > 4 || !s.each(3, x, 0) || !s.each(2, x, 0, 3, 4) || !s.kind(1) && !s.kind(2) {
		return false
	}
	for i, step := range s.d.Steps {
		if step.Kind == 2 && x.Steps[i] != 0 && (!s.each(1, x, 2, 5) || x.Cause != x.Steps[i]) { // 3 is refused in both, 4 busy
			return false
		}
	}
	return x.Cause < 3 || slices.Contains(x.Steps, x.Cause)
}

func (s *slow) ready(x api.Inst) []int {
	return s.those(func(i int) bool {
		return x.Steps[i] == 0 && len(s.those(func(a int) bool { return s.ahead[a][i] && x.Steps[a] != 2 })) == 0
	})
}

func (s *slow) undo(x api.Inst) []int {
	open := func(i int) bool { return x.Steps[i] == 1 || x.Steps[i] == 2 }
	return s.those(func(i int) bool {
		return open(i) && len(s.those(func(b int) bool { return s.ahead[i][b] && open(b) })) == 0
	})
}

func (s *slow) short(x api.Inst, phase, cause int) api.Inst {
	return api.Inst{Id: x.Id, Key: x.Key, Name: x.Name, Version: x.Version, Phase: phase, Cause: cause}
}

// on is the table of P19.2, row by row, of an instance that may be and is no brief, and of a note of it that may be.
func (s *slow) on(x api.Inst, n api.Note) (api.Inst, bool) {
	y := x
	y.Steps = slices.Clone(x.Steps)
	stands := -1
	if n.Step < len(x.Steps) {
		stands = x.Steps[n.Step]
	}
	switch n.Kind {
	case api.NoteCancel, api.NoteLate:
		y.Phase, y.Cause = 5, n.Kind-2
		return y, x.Phase == 1
	case api.NoteIssue:
		if x.Phase != 1 && x.Phase != 3 || !slices.Contains(s.ready(x), n.Step) {
			return y, false
		}
		y.Steps[n.Step] = 1
		if s.d.Steps[n.Step].Kind == 2 {
			y.Phase = 2
		}
		return y, true
	case api.NoteMark:
		if stands < 0 {
			return y, false
		}
		y.Steps[n.Step] = n.State
		switch n.State {
		case 2:
			if s.d.Steps[n.Step].Kind == 2 || x.Phase == 1 && !s.kind(2) && s.each(1, y, 2) {
				y.Phase = 3
			}
			return y, stands == 1
		case 5:
			return y, x.Phase == 5 && slices.Contains(s.undo(x), n.Step)
		}
		if x.Phase == 1 || x.Phase == 2 {
			y.Phase, y.Cause = 5, n.State
		}
		return y, stands == 1 && (x.Phase == 1 || x.Phase == 2 || x.Phase == 5)
	case api.NoteEnd:
		if x.Phase == 3 {
			y.Phase = 4
			return y, slices.Min(x.Steps) == 2 && slices.Max(x.Steps) == 2
		}
		y.Phase = 6
		return y, x.Phase == 5 && !slices.Contains(x.Steps, 1) && !slices.Contains(x.Steps, 2)
	case api.NoteFreed:
		y.Freed[n.Part] = 1
		if len(s.unfreed(y)) == 0 {
			y = s.short(x, x.Phase, x.Cause)
		}
		return y, (x.Phase == 4 || x.Phase == 6) && s.named(n.Part) && x.Freed[n.Part] == 0
	case api.NoteBrief:
		return s.short(x, n.State, n.Cause), sameInst(x, s.start(x))
	}
	return y, false
}

func (s *slow) start(x api.Inst) api.Inst {
	y := s.short(x, 1, 0)
	y.Steps = make([]int, len(s.d.Steps))
	if !s.kind(1) && !s.kind(2) {
		y.Phase = 3
	}
	return y
}

func (s *slow) next(x api.Inst) []api.Note {
	var notes []api.Note
	if x.Phase == 1 || x.Phase == 3 {
		for _, i := range s.ready(x) {
			notes = append(notes, issue(i))
		}
	}
	if _, is := s.on(x, note(api.NoteEnd)); is && len(notes) == 0 {
		notes = append(notes, note(api.NoteEnd))
	}
	return notes
}

func (s *slow) wants(x api.Inst) []api.Letter {
	var letters []api.Letter
	for i, step := range s.d.Steps {
		if x.Phase <= 3 && x.Steps[i] == 1 {
			letters = append(letters, api.Letter{Kind: 1, Part: step.Part, Inst: 5, Step: i, Sort: step.Kind, Keys: step.Keys})
		}
		if x.Phase == 5 && slices.Contains(s.undo(x), i) {
			letters = append(letters, api.Letter{Kind: 2, Part: step.Part, Inst: 5, Step: i})
		}
	}
	for _, part := range s.unfreed(x) {
		if x.Phase == 4 || x.Phase == 6 {
			letters = append(letters, api.Letter{Kind: 3, Part: part, Inst: 5})
		}
	}
	return letters
}

func (s *slow) notes(x api.Inst) []api.Note {
	var notes []api.Note
	marked := map[int]bool{}
	add := func(i, state int) {
		notes = append(notes, mark(i, state))
		marked[i] = true
	}
	for _, i := range s.order {
		if x.Steps[i] == 0 {
			continue
		}
		notes = append(notes, issue(i))
		moved := s.those(func(b int) bool { return s.ahead[i][b] && x.Steps[b] != 0 })
		if x.Steps[i] == 2 && x.Cause == 0 || len(moved) > 0 {
			add(i, 2)
		}
	}
	switch x.Cause {
	case 1, 2:
		notes = append(notes, note(x.Cause+2))
	case 3, 4:
		add(slices.Index(x.Steps, x.Cause), x.Cause)
	}
	for i, state := range x.Steps {
		if x.Cause != 0 && !marked[i] && state >= 2 && state <= 4 {
			add(i, state)
		}
	}
	for at := len(s.order) - 1; at >= 0; at-- {
		if i := s.order[at]; x.Steps[i] == 5 {
			add(i, 5)
		}
	}
	if x.Phase == 4 || x.Phase == 6 {
		notes = append(notes, note(api.NoteEnd))
	}
	for part, freed := range x.Freed {
		if freed == 1 {
			notes = append(notes, freeOf(part))
		}
	}
	return notes
}

// allNotes are all notes of the instance 5 that may be, but for what a NoteStart names.
func allNotes() []api.Note {
	notes := []api.Note{note(api.NoteCancel), note(api.NoteLate), note(api.NoteEnd), {Kind: api.NoteStart, Inst: 5, Key: "k", Name: "a", Version: 1}, ended(4, 0)}
	for i := range 8 {
		notes = append(notes, issue(i), mark(i, 2), mark(i, 3), mark(i, 4), mark(i, 5))
	}
	for n := range 4 {
		notes = append(notes, freeOf(n), ended(6, n+1))
	}
	return notes
}

// answers are the notes that the answers to a letter come to.
func answers(l api.Letter) []api.Note {
	switch {
	case l.Kind == api.LetterDo && l.Sort == api.Retriable:
		return []api.Note{mark(l.Step, api.StepDone)}
	case l.Kind == api.LetterDo:
		return []api.Note{mark(l.Step, api.StepDone), mark(l.Step, api.StepNo), mark(l.Step, api.StepBusy)}
	case l.Kind == api.LetterUndo:
		return []api.Note{mark(l.Step, api.StepUndone)}
	}
	return []api.Note{freeOf(l.Part)}
}

// hold holds all that the package says of an instance that may be against its likeness, and against what follows.
func (s *slow) hold(t *testing.T, x api.Inst, notes []api.Note) {
	t.Helper()
	d := s.d
	if s.brief(x) {
		mustNotOn(t, "P19.2", d, x, api.ErrPhaseEvent, notes...)
		return
	}
	mustNext(t, "P19.3", d, x, s.next(x)...)
	mustWant(t, "P19.4", d, x, s.wants(x)...)
	mustTell(t, "P19.5", d, x, s.notes(x)...)
	for _, n := range notes {
		want, is := s.on(x, n)
		if !is {
			mustNotOn(t, "P19.2", d, x, api.ErrPhaseEvent, n)
			continue
		}
		mustOn(t, "P19.2", d, x, n, want)
		holdTurn(t, s, x, n, want)
	}
	s.holdOnward(t, x)
}

// holdTurn: what leads back, and what leads to Committed.
func holdTurn(t *testing.T, s *slow, x api.Inst, n api.Note, y api.Inst) {
	t.Helper()
	if y.Phase == api.Committed && x.Phase != api.Completing && x.Phase != api.Committed && n.Kind != api.NoteBrief {
		t.Errorf("P19.7: %v is committed behind %v", x, n)
	}
	if y.Phase != api.Backward || x.Phase != api.Sealed && x.Phase != api.Completing {
		return
	}
	pivot := n.Kind == api.NoteMark && s.d.Steps[n.Step].Kind == api.Pivot && (n.State == api.StepNo || n.State == api.StepBusy)
	if x.Phase == api.Completing || !pivot {
		t.Errorf("P19.7: %v turns back behind %v", x, n)
	}
}

// holdOnward: all of Next can come, all answers to what is wanted can, and there is one of both.
func (s *slow) holdOnward(t *testing.T, x api.Inst) {
	t.Helper()
	next, wants := Next(s.d, x), Wants(s.d, x)
	if len(next)+len(wants) == 0 {
		t.Errorf("P19.7: %v of %v: nothing is next, and nothing wanted", x, s.d)
	}
	y, err := x, api.OK
	for _, n := range next {
		if y, err = On(s.d, y, n); err != api.OK {
			t.Errorf("P19.7: %v: %v of Next can't come: %d", x, n, err)
		}
	}
	for _, l := range wants {
		if _, err := codec.Letter(l); err != api.OK {
			t.Errorf("P19.4: %v: %v may not be", x, l)
		}
		for _, n := range answers(l) {
			if _, err := On(s.d, x, n); err != api.OK {
				t.Errorf("P19.7: %v: %v can't come behind %v: %d", x, n, l, err)
			}
		}
	}
}

// everyDef goes through all definitions of n steps without keys that may be; parts tells each step's participant.
func everyDef(n int, parts []int, see func(api.Def)) {
	d := api.Def{Name: "a", Steps: make([]api.Step, n)}
	var from func(i int)
	from = func(i int) {
		if i == n {
			if _, err := check.Check(d); err == api.OK {
				see(d)
			}
			return
		}
		for choice := range 3 << n {
			var needs []int
			for k := range n {
				if choice>>k&1 == 1 {
					needs = append(needs, k)
				}
			}
			if !slices.Contains(needs, i) {
				d.Steps[i] = api.Step{Name: string(rune('a' + i)), Kind: 1 + choice>>n, Part: parts[i], Needs: needs}
				from(i + 1)
			}
		}
	}
	from(0)
}

// everyList goes through all lists of n numbers, each from least to most.
func everyList(n, least, most int, see func([]int)) {
	list := make([]int, n)
	var from func(i int)
	from = func(i int) {
		if i == n {
			see(list)
			return
		}
		for list[i] = least; list[i] <= most; list[i]++ {
			from(i + 1)
		}
	}
	from(0)
}

// TestEveryInstance: all instances of all definitions of one and two steps, with numbers beyond their ranges.
func TestEveryInstance(t *testing.T) {
	notes := allNotes()
	for n := 1; n <= 2; n++ {
		for _, parts := range [][]int{{0, 2}, {3, 3}} {
			everyDef(n, parts, func(d api.Def) {
				s := slowly(d)
				valid := 0
				for steps := n - 1; steps <= n+1; steps++ {
					least, most := 0, 2
					if steps == n {
						least, most = -1, 6
					}
					everyList(steps, least, most, func(states []int) {
						everyList(2, -1, 7, func(list []int) {
							everyList(2, -1, 2, func(freed []int) {
								x := inst(d, list[0], list[1]-1, slices.Clone(states)...)
								x.Freed[0], x.Freed[parts[1]] = freed[0], freed[1]
								want := s.valid(x)
								if got := Valid(d, x); got != want {
									t.Fatalf("P19.1: %v: Valid of %v = %t", d, x, got)
								}
								if want {
									valid++
									s.hold(t, x, notes)
								}
							})
						})
					})
				}
				if valid < 5 {
					t.Errorf("only %d instances of %v may be", valid, d)
				}
			})
		}
	}
}

// walk finds all instances that can come from the start on, and the most notes that may follow on each.
type walk struct {
	s     *slow
	notes []api.Note
	most  map[string]int
}

func keyOf(x api.Inst) string {
	key := []byte{byte(x.Phase), byte(x.Cause)}
	for _, freed := range x.Freed {
		key = append(key, byte(freed))
	}
	for _, state := range x.Steps {
		key = append(key, byte(state))
	}
	return string(key)
}

func (w *walk) from(t *testing.T, x api.Inst) int {
	key := keyOf(x)
	if most, is := w.most[key]; is {
		return most
	}
	if !Valid(w.s.d, x) || !w.s.valid(x) {
		t.Fatalf("P19.7: %v of %v came, but may not be", x, w.s.d)
	}
	w.s.hold(t, x, w.notes)
	most := 0
	for _, n := range w.notes {
		if y, err := On(w.s.d, x, n); err == api.OK {
			most = max(most, 1+w.from(t, y))
		}
	}
	w.most[key] = most
	return most
}

// TestEveryWay: all instances that can come, of all definitions of three steps; each that may be can come.
func TestEveryWay(t *testing.T) {
	everyDef(3, []int{0, 2, 0}, func(d api.Def) {
		w := &walk{slowly(d), allNotes(), map[string]int{}}
		most := 1 + w.from(t, mustStart(t, d))
		if c, err := cost.Of(d); err != api.OK || most > c.Orch {
			t.Fatalf("P19.7: %v: %d notes, but it costs %d (%d)", d, most, c.Orch, err)
		}
		everyList(3, 0, 5, func(states []int) {
			for phase := 1; phase <= 6; phase++ {
				for cause := range 5 {
					x := inst(d, phase, cause, states...)
					_, came := w.most[keyOf(x)]
					if Valid(d, x) != came {
						t.Fatalf("P19.7: %v: %v may be: %t, can come: %t", d, x, !came, came)
					}
				}
			}
		})
	})
}

// def is a definition that may be: the steps' places are a row of their own, so that needs go to and fro.
func (m *made) def(n int) api.Def {
	var places []int
	for i := range n {
		places = slices.Insert(places, m.below(i+1), i)
	}
	d := api.Def{Name: "a", Steps: make([]api.Step, n)}
	pivot, thick := m.below(n+2), 1+m.below(5)
	for at, i := range places {
		d.Steps[i] = api.Step{Name: string(rune('a' + i)), Kind: api.Compensatable, Part: m.below(4)}
		if at == pivot {
			d.Steps[i].Kind = api.Pivot
		} else if at > pivot {
			d.Steps[i].Kind = api.Retriable
		}
		if m.below(2) == 0 && at <= pivot {
			d.Steps[i].Keys = [][]string{{"d"}, {"a"}, {"b", "f"}, {"c"}}[d.Steps[i].Part]
		}
		for _, k := range places[:at] {
			if m.below(thick) == 0 {
				d.Steps[i].Needs = append(d.Steps[i].Needs, k)
			}
		}
		slices.Sort(d.Steps[i].Needs)
	}
	return d
}

// TestLongWays: whatever comes, of greater definitions, is held; and from each on Next and answers lead to the end.
func TestLongWays(t *testing.T) {
	m, notes := made(19), allNotes()
	ends := map[[2]int]int{}
	for range 400 {
		d := m.def(4 + m.below(5))
		if i, err := check.Check(d); err != api.OK {
			t.Fatalf("%v may not be: %d, %d", d, i, err)
		}
		s := slowly(d)
		x, came := mustStart(t, d), 1
		for !Closed(x) {
			s.hold(t, x, notes)
			m.holdEnd(t, d, x)
			s.holdSpoilt(t, &m, x)
			n := m.oneOf(d, x, notes)
			y, err := On(d, x, n)
			if err != api.OK {
				t.Fatalf("P19.2: %v behind %v: %d", x, n, err)
			}
			x, came = y, came+1
		}
		ends[[2]int{x.Phase, x.Cause}]++
		if c, err := cost.Of(d); err != api.OK || came > c.Orch {
			t.Fatalf("P19.7: %v: %d notes, but it costs %d (%d)", d, came, c.Orch, err)
		}
	}
	for _, end := range [][2]int{{4, 0}, {6, 1}, {6, 2}, {6, 3}, {6, 4}} {
		if ends[end] < 10 {
			t.Errorf("the end %v came %d times only", end, ends[end])
		}
	}
}

// oneOf chooses a note that can come; one that turns the instance back not often, so that all phases are seen.
func (m *made) oneOf(d api.Def, x api.Inst, notes []api.Note) api.Note {
	var on, back []api.Note
	for _, n := range notes {
		y, err := On(d, x, n)
		switch {
		case err != api.OK || n.Kind == api.NoteBrief:
		case y.Phase == api.Backward && x.Phase != api.Backward:
			back = append(back, n)
		default:
			on = append(on, n)
		}
	}
	if len(on) == 0 || len(back) > 0 && m.below(12) == 0 {
		return back[m.below(len(back))]
	}
	return on[m.below(len(on))]
}

// holdEnd does all of Next and answers all that is wanted, by any answers, till the instance is closed.
func (m *made) holdEnd(t *testing.T, d api.Def, x api.Inst) {
	t.Helper()
	for count := 0; !Closed(x); count++ {
		if count > 6*len(d.Steps)+10 {
			t.Fatalf("P19.7: %v isn't closed behind %d notes: %v", d, count, x)
		}
		notes := Next(d, x)
		if len(notes) == 0 {
			wants := Wants(d, x)
			notes = answers(wants[m.below(len(wants))])
			notes = notes[m.below(len(notes)):]
		}
		y, err := On(d, x, notes[0])
		if err != api.OK {
			t.Fatalf("P19.7: %v of %v can't come: %d", notes[0], x, err)
		}
		x = y
	}
}

// holdSpoilt changes one field of an instance.
func (s *slow) holdSpoilt(t *testing.T, m *made, x api.Inst) {
	t.Helper()
	for range 30 {
		y := x
		y.Steps = slices.Clone(x.Steps)
		switch m.below(4) {
		case 0:
			y.Steps[m.below(len(y.Steps))] = m.below(8) - 1
		case 1:
			y.Phase = m.below(9) - 1
		case 2:
			y.Cause = m.below(7) - 1
		case 3:
			y.Freed[m.below(4)] = m.below(4) - 1
		}
		if got, want := Valid(s.d, y), s.valid(y); got != want {
			t.Fatalf("P19.1: %v: Valid of %v = %t", s.d, y, got)
		}
	}
}

// TestSameAnswers: an answer is the same, however often it is asked for.
func TestSameAnswers(t *testing.T) {
	d := read(t, "a; do b @1 +a; do c @2 <b; pivot p @1; ever e @3")
	x := inst(d, api.Backward, api.CauseRefused, 2, 3, 0, 0)
	notes, letters, next := Notes(d, x), Wants(d, x), Next(d, x)
	for range 50 {
		if !reflect.DeepEqual(Notes(d, x), notes) || !reflect.DeepEqual(Wants(d, x), letters) || !reflect.DeepEqual(Next(d, x), next) {
			t.Fatal("R6: the same question has another answer")
		}
	}
}
