package orch

import (
	"slices"

	"odyssey/api"
	"odyssey/cost"
	"odyssey/def"
	"odyssey/phase"
	"odyssey/quota"
	"odyssey/registry"
)

// memory is what notes make, and nothing else: a restart makes the same of the same notes.
type memory struct {
	defs  *registry.Registry
	quota *quota.Quota
	insts []api.Inst // by their ids, from 1 on
}

// happen does a note. It is asked of those alone that can come, so that nothing below refuses.
func (m *memory) happen(n api.Note) {
	switch n.Kind {
	case api.NoteDef:
		d, _, _ := def.Parse(n.Text)
		m.defs.Add(d)
	case api.NoteStart:
		d, _, _ := m.defs.Find(n.Name, n.Version)
		c, _ := cost.Of(d)
		m.quota.Admit(c)
		x, _ := phase.Start(d, n.Inst, n.Key, n.Version)
		m.insts = append(m.insts, x)
	default:
		m.change(n)
	}
}

func (m *memory) change(n api.Note) {
	x := m.insts[n.Inst-1]
	x, _ = phase.On(m.defOf(x), x, n)
	m.insts[n.Inst-1] = x
	if phase.Closed(x) {
		m.quota.Close()
	}
}

// notes are such as make all of this out of nothing.
func (m *memory) notes() []api.Note {
	var notes []api.Note
	for _, d := range m.defs.All() {
		text, _ := def.Print(d) // no error: it was noted by its text
		notes = append(notes, api.Note{Kind: api.NoteDef, Text: text})
	}
	for _, x := range m.insts {
		notes = append(notes, startNote(x.Id, x.Key, x.Name, x.Version))
		notes = append(notes, phase.Notes(m.defOf(x), x)...)
	}
	return notes
}

// inst is the instance of an id, if there is one.
func (m *memory) inst(id int) (api.Inst, bool) {
	if id < 1 || id > len(m.insts) {
		return api.Inst{}, false
	}
	return m.insts[id-1], true
}

// instOf is the instance of a client's key, if there is one.
func (m *memory) instOf(key string) (api.Inst, bool) {
	at := slices.IndexFunc(m.insts, func(x api.Inst) bool { return x.Key == key })
	return m.inst(at + 1)
}

// open are the instances that are not closed, rising.
func (m *memory) open() []api.Inst {
	return slices.DeleteFunc(slices.Clone(m.insts), phase.Closed)
}

// defOf is the definition of an instance; it stays in its version for ever.
func (m *memory) defOf(x api.Inst) api.Def {
	d, _, _ := m.defs.Find(x.Name, x.Version)
	return d
}

// wouldAdd tells what the registry would answer, and whether it would put the definition in. It asks another one that is the same.
func (m *memory) wouldAdd(d api.Def) (int, bool, api.Errno) {
	known := m.defs.All()
	twin := registry.New()
	for _, one := range known {
		twin.Add(one)
	}
	version, err := twin.Add(d)
	return version, len(twin.All()) > len(known), err
}

// wouldAdmit tells what the quota, of so many live ones at most, would answer. It asks another one that is the same.
func (m *memory) wouldAdmit(c api.Cost, most int) api.Errno {
	live, left := m.quota.Left()
	twin, _ := quota.New(most, left.Orch, left.Parts) // no error: budgets only fall, and never below 0
	for range live {
		twin.Admit(api.Cost{})
	}
	return twin.Admit(c)
}

// copyOf is an instance that shares nothing with the one kept.
func copyOf(x api.Inst) api.Inst {
	x.Steps = slices.Clone(x.Steps)
	return x
}

// same tells whether an instance is still what it was: all that it began with never changes.
func same(x, was api.Inst) bool {
	return x.Phase == was.Phase && x.Cause == was.Cause && x.Freed == was.Freed && slices.Equal(x.Steps, was.Steps)
}
