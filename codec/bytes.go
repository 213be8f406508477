package codec

import (
	"odyssey/api"
	"odyssey/pack"
)

// nums, text and list are asked only of values that may be: pack refuses none of these.
func nums(numbers ...int) string {
	form := ""
	for _, n := range numbers {
		bytes, _ := pack.Num(n)
		form += bytes
	}
	return form
}

func text(s string) string {
	bytes, _ := pack.Text(s)
	return bytes
}

func list(texts []string) string {
	bytes, _ := pack.List(texts)
	return bytes
}

// giveUp leaves whatever is being read; read catches it.
func giveUp() { panic(api.ErrCodecForm) }

// reader reads a text from the left, and gives up where what it looks for does not stand.
type reader struct {
	text string
	at   int
}

func (r *reader) num() int {
	n, next, err := pack.TakeNum(r.text, r.at)
	r.pass(next, err)
	return n
}

func (r *reader) word() string {
	s, next, err := pack.TakeText(r.text, r.at)
	r.pass(next, err)
	return s
}

func (r *reader) keys() []string {
	keys, next, err := pack.TakeList(r.text, r.at)
	r.pass(next, err)
	return keys
}

func (r *reader) pass(next int, err api.Errno) {
	if err != api.OK {
		giveUp()
	}
	r.at = next
}

// value reads a mark and, as far as its kind has fields, what stands behind it.
func (r *reader) value() value {
	if r.text == "" {
		giveUp()
	}
	r.at = 1
	switch r.text[:1] {
	case letterMark:
		return r.letter()
	case eventMark:
		return r.event()
	case noteMark:
		return r.note()
	}
	giveUp()
	return nil
}

func (r *reader) letter() letter {
	var l letter
	l.Kind = r.num()
	l.Part = r.num()
	l.Inst = r.num()
	if l.Kind != api.LetterFree && l.Kind != api.LetterFreed {
		l.Step = r.num()
	}
	if l.Kind == api.LetterDo {
		l.Sort = r.num()
		l.Keys = r.keys()
	}
	return l
}

func (r *reader) event() event {
	var e event
	e.Kind = r.num()
	e.Inst = r.num()
	if e.Kind != api.EventFree {
		e.Step = r.num()
	}
	if e.Kind == api.EventDo {
		e.Keys = r.keys()
	}
	return e
}

func (r *reader) note() note {
	n := note{Kind: r.num()}
	if n.Kind == api.NoteDef {
		n.Text = r.word()
		return n
	}
	n.Inst = r.num()
	switch n.Kind {
	case api.NoteStart:
		n.Key = r.word()
		n.Name = r.word()
		n.Version = r.num()
	case api.NoteIssue:
		n.Step = r.num()
	case api.NoteMark:
		n.Step = r.num()
		n.State = r.num()
	case api.NoteFreed:
		n.Part = r.num()
	case api.NoteBrief:
		n.State = r.num()
		n.Cause = r.num()
	}
	return n
}
