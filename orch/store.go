package orch

import (
	"odyssey/api"
	"odyssey/disk"
	"odyssey/journal"
	"odyssey/pack"
)

// store is a disk and, while the node is up, the journal on it.
type store struct {
	disk    *disk.Disk
	journal *journal.Journal
}

func newStore(room int) (store, api.Errno) {
	d, err := disk.New(room)
	if err != api.OK {
		return store{}, api.ErrWorldConfig
	}
	j, err := journal.New(d)
	if err != api.OK {
		return store{}, api.ErrDiskFull
	}
	return store{d, j}, api.OK
}

// add lays a record behind the others; it is not safe ahead of makeSafe.
func (s *store) add(form string) api.Errno {
	if s.journal.Add(form) != api.OK {
		return api.ErrDiskFull
	}
	return api.OK
}

func (s *store) makeSafe() { s.journal.Sync() }

// fall takes the journal away by a crash of the disk, and tells how many of its records are lost by that: the last ones.
func (s *store) fall(keep int) int {
	_, before, _ := s.journal.Stat()
	s.disk.Crash(keep)
	s.journal = nil
	// Opened on a copy: the torn end is cut off by rise, and not ahead of that. No error: the head is always safe.
	_, _, left, _ := journal.Open(s.disk.Copy())
	return before - len(left)
}

// rise opens the journal again, and tells all that it has: what the snapshot lists, then the records.
func (s *store) rise() ([]string, api.Errno) {
	j, snap, records, err := journal.Open(s.disk)
	if err != api.OK {
		return nil, err
	}
	s.journal = j
	if snap == "" {
		return records, api.OK // a new journal's snapshot is no list
	}
	forms, _, _ := pack.TakeList(snap, 0) // no error: standOn made it
	return append(forms, records...), api.OK
}

// standOn puts a list of forms in the place of all that the journal has.
func (s *store) standOn(forms []string) api.Errno {
	snap, err := pack.List(forms)
	if err != api.OK || s.journal.Compact(snap) != api.OK {
		return api.ErrDiskFull
	}
	return api.OK
}
