package orch

import (
	"odyssey/api"
	"odyssey/check"
	"odyssey/codec"
	"odyssey/cost"
	"odyssey/def"
)

// doing does what a request asks for: the reply, but for its Kind, or the error that is its Code.
type doing func(o *Orch, r api.Request) (api.Reply, api.Errno)

// doings are what the kinds of requests do, by their numbers. No kind has the number 0.
func doings() [api.RequestList + 1]doing {
	return [...]doing{
		api.RequestRegister: (*Orch).register,
		api.RequestStart:    (*Orch).start,
		api.RequestCancel:   (*Orch).cancel,
		api.RequestQuery:    (*Orch).query,
		api.RequestList:     (*Orch).list,
	}
}

// mayBeAsked tells whether a request is of a kind, and has fields such as the kind asks for.
func mayBeAsked(r api.Request) bool {
	switch r.Kind {
	case api.RequestRegister, api.RequestList:
		return true
	case api.RequestStart:
		return r.Version >= 0 && areNames(r.Key, r.Name)
	case api.RequestCancel, api.RequestQuery:
		return r.Id >= 0
	}
	return false
}

// areNames leaves it to the form of a NoteStart what a key and a name are.
func areNames(key, name string) bool {
	_, err := codec.Note(startNote(1, key, name, 1))
	return err == api.OK
}

func startNote(id int, key, name string, version int) api.Note {
	return api.Note{Kind: api.NoteStart, Inst: id, Key: key, Name: name, Version: version}
}

func (o *Orch) register(r api.Request) (api.Reply, api.Errno) {
	d, _, err := def.Parse(r.Text)
	if err != api.OK {
		return api.Reply{}, err
	}
	if _, err := check.Check(d); err != api.OK {
		return api.Reply{}, err
	}
	version, isNew, err := o.wouldAdd(d)
	if err == api.OK && isNew {
		err = o.noteDef(d)
	}
	return api.Reply{Version: version}, err
}

func (o *Orch) noteDef(d api.Def) api.Errno {
	text, err := def.Print(d)
	if err != api.OK {
		return err
	}
	return o.note(api.Note{Kind: api.NoteDef, Text: text})
}

func (o *Orch) start(r api.Request) (api.Reply, api.Errno) {
	if x, is := o.instOf(r.Key); is {
		if x.Name != r.Name || r.Version > 0 && x.Version != r.Version {
			return api.Reply{}, api.ErrOrchKey
		}
		return api.Reply{Id: x.Id, Version: x.Version}, api.OK
	}
	version, err := o.mayStart(r)
	if err != api.OK {
		return api.Reply{}, err
	}
	id := len(o.insts) + 1
	if err := o.note(startNote(id, r.Key, r.Name, version)); err != api.OK {
		return api.Reply{}, err
	}
	o.retry.Begin(id, o.now)
	x, _ := o.inst(id)
	o.goOn(x)
	return api.Reply{Id: id, Version: version}, api.OK
}

// mayStart tells by which version an instance would go, or why there can't be one more. It takes nothing of the quota.
func (o *Orch) mayStart(r api.Request) (int, api.Errno) {
	d, version, err := o.defs.Find(r.Name, r.Version)
	if err != api.OK {
		return 0, err
	}
	if len(o.insts) >= api.MaxInst {
		return 0, api.ErrOrchFull
	}
	c, _ := cost.Of(d) // no error: the registry has none that may not be
	return version, o.wouldAdmit(c, o.config.Live)
}

func (o *Orch) cancel(r api.Request) (api.Reply, api.Errno) {
	x, is := o.inst(r.Id)
	if !is {
		return api.Reply{}, api.ErrOrchNone
	}
	switch x.Phase {
	case api.Backward, api.Aborted:
		return api.Reply{Id: r.Id}, api.OK
	case api.Forward:
		return api.Reply{Id: r.Id}, o.goOnBy(api.Note{Kind: api.NoteCancel, Inst: r.Id})
	}
	return api.Reply{}, api.ErrOrchLate
}

func (o *Orch) query(r api.Request) (api.Reply, api.Errno) {
	x, is := o.inst(r.Id)
	if !is {
		return api.Reply{}, api.ErrOrchNone
	}
	return api.Reply{Id: r.Id, Inst: copyOf(x)}, api.OK
}

func (o *Orch) list(api.Request) (api.Reply, api.Errno) {
	var rows []api.Row
	for _, x := range o.insts {
		rows = append(rows, api.Row{Id: x.Id, Phase: x.Phase})
	}
	return api.Reply{Rows: rows}, api.OK
}
