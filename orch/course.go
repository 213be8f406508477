package orch

import (
	"slices"

	"odyssey/api"
	"odyssey/codec"
	"odyssey/cost"
	"odyssey/phase"
)

// note lays a note into the journal; only then it has happened.
func (o *Orch) note(n api.Note) api.Errno {
	if err := o.store.add(formOf(n)); err != api.OK {
		return err
	}
	o.happen(n)
	o.waits.notes = append(o.waits.notes, n)
	return api.OK
}

// goOnBy notes what happens to an instance, and goes on with it.
func (o *Orch) goOnBy(n api.Note) api.Errno {
	was, _ := o.inst(n.Inst)
	if err := o.note(n); err != api.OK {
		return err
	}
	o.goOn(was)
	return api.OK
}

// goOn lets an instance come as far as it comes by itself. It is told by what it was ahead of what has just happened to it.
func (o *Orch) goOn(was api.Inst) {
	d := o.defOf(was)
	x, _ := o.inst(was.Id)
	for notes := phase.Next(d, x); len(notes) > 0; notes = phase.Next(d, x) {
		if o.note(notes[0]) != api.OK {
			break
		}
		x, _ = o.inst(was.Id)
	}
	switch {
	case same(x, was):
	case phase.Closed(x):
		o.retry.Stop(x.Id)
	default:
		o.retry.Moved(x.Id, o.now)
		o.sendNew(formsOf(phase.Wants(d, x)), formsOf(phase.Wants(d, was)))
	}
}

// sendNew lets those letters wait to be sent that were not wanted already.
func (o *Orch) sendNew(wanted, already []string) {
	for _, letter := range wanted {
		if !slices.Contains(already, letter) {
			o.waits.letters = append(o.waits.letters, letter)
		}
	}
}

// sendAll lets all letters that an instance wants wait to be sent.
func (o *Orch) sendAll(id int) {
	x, _ := o.inst(id)
	o.sendNew(formsOf(phase.Wants(o.defOf(x), x)), nil)
}

// noteOf is the note that a letter from a participant comes to, if there is one that its instance takes.
func (o *Orch) noteOf(l api.Letter) (api.Note, bool) {
	x, is := o.inst(l.Inst)
	d := o.defOf(x)
	if !is || !isFrom(d, l) {
		return api.Note{}, false
	}
	n := api.Note{Kind: api.NoteMark, Inst: l.Inst, Step: l.Step}
	switch l.Kind {
	case api.LetterDone:
		n.State = api.StepDone
	case api.LetterNo:
		n.State = api.StepNo
	case api.LetterBusy:
		n.State = api.StepBusy
	case api.LetterUndone:
		n.State = api.StepUndone
	case api.LetterFreed:
		n = api.Note{Kind: api.NoteFreed, Inst: l.Inst, Part: l.Part}
	default:
		return api.Note{}, false // LetterAgain: the step stays as it is, and its letter comes again in any case
	}
	_, err := phase.On(d, x, n)
	return n, err == api.OK
}

// isFrom tells whether a letter comes from the participant of its step; of no step, from one that the definition names.
func isFrom(d api.Def, l api.Letter) bool {
	if l.Kind == api.LetterFreed {
		return slices.Contains(cost.Named(d), l.Part)
	}
	return l.Step < len(d.Steps) && d.Steps[l.Step].Part == l.Part
}

func toParticipant(l api.Letter) bool {
	return l.Kind == api.LetterDo || l.Kind == api.LetterUndo || l.Kind == api.LetterFree
}

// formOf and formsOf are asked of notes and letters that may be alone.
func formOf(n api.Note) string {
	form, _ := codec.Note(n)
	return form
}

func formsOf(letters []api.Letter) []string {
	var forms []string
	for _, l := range letters {
		form, _ := codec.Letter(l)
		forms = append(forms, form)
	}
	return forms
}
