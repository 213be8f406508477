package orch

import (
	"slices"

	"odyssey/api"
)

// waiting is what waits till the notes are safe, each row in the order in which it came.
type waiting struct {
	letters []string // their forms
	replies []api.Reply
	notes   []api.Note
}

func (w *waiting) none() bool {
	return len(w.letters)+len(w.replies)+len(w.notes) == 0
}

// take hands out all that waits, as copies: the rows themselves are used again.
func (w *waiting) take() ([]string, []api.Reply, []api.Note) {
	letters, replies, notes := slices.Clone(w.letters), slices.Clone(w.replies), slices.Clone(w.notes)
	w.dropLetters()
	w.replies, w.notes = emptied(w.replies), emptied(w.notes)
	return letters, replies, notes
}

func (w *waiting) dropLetters() { w.letters = emptied(w.letters) }

// emptied is a row without elements. It is cleared: what was handed out must not be kept here.
func emptied[T any](row []T) []T {
	clear(row)
	return row[:0]
}
