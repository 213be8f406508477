package part

import (
	"odyssey/api"
	"odyssey/disk"
	"odyssey/journal"
	"odyssey/pack"
)

// node is what every node has.
type node struct {
	disk    *disk.Disk
	journal *journal.Journal // on the disk; nil, while it is down
	up      bool
}

func newNode(room int) (node, api.Errno) {
	d, err := disk.New(room)
	if err != api.OK {
		return node{}, api.ErrArg
	}
	j, err := journal.New(d)
	if err != api.OK {
		return node{}, api.ErrDiskFull
	}
	return node{disk: d, journal: j, up: true}, api.OK
}

// Up tells whether it is up, Disk is its disk, as a copy.
func (n *node) Up() bool { return n.up }

func (n *node) Disk() *disk.Disk { return n.disk.Copy() }

// add lays a record behind the others; it is not safe ahead of makeSafe.
func (n *node) add(form string) api.Errno {
	if n.journal.Add(form) != api.OK {
		return api.ErrDiskFull
	}
	return api.OK
}

func (n *node) makeSafe() { n.journal.Sync() }

// fall takes it down by a crash of its disk, and tells how many of the journal's records are lost by that: the last ones.
func (n *node) fall(keep int) int {
	_, before, _ := n.journal.Stat()
	n.disk.Crash(keep)
	n.journal, n.up = nil, false
	// Opened on a copy: the torn end is cut off when it comes up, and not ahead of that. No error: the head is always safe.
	_, _, left, _ := journal.Open(n.Disk())
	return before - len(left)
}

// rise takes it up again, and tells all that its journal has: what the snapshot lists, then the records.
func (n *node) rise() ([]string, api.Errno) {
	j, snap, records, err := journal.Open(n.disk)
	if err != api.OK {
		return nil, err
	}
	n.journal, n.up = j, true
	return append(listed(snap), records...), api.OK
}

// standOn puts a list of forms in the place of all that the journal has.
func (n *node) standOn(forms []string) api.Errno {
	snap, err := pack.List(forms)
	if err != api.OK || n.journal.Compact(snap) != api.OK {
		return api.ErrDiskFull
	}
	return api.OK
}

// listed is what a snapshot lists. A new journal's snapshot is empty, and so no list.
func listed(snap string) []string {
	if snap == "" {
		return nil
	}
	forms, _, _ := pack.TakeList(snap, 0) // no error: standOn made it
	return forms
}
