package pool

import "slices"

// row is a row of things of one type, the oldest one first.
type row[T any] struct {
	things []T
}

func (r *row[T]) count() int { return len(r.things) }

// has tells whether a thing has that number; take and at are asked only of such numbers.
func (r *row[T]) has(i int) bool { return i >= 0 && i < len(r.things) }

func (r *row[T]) at(i int) T { return r.things[i] }

func (r *row[T]) add(thing T) { r.things = append(r.things, thing) }

func (r *row[T]) take(i int) T {
	thing := r.things[i]
	r.things = slices.Delete(r.things, i, i+1)
	return thing
}

// all is a copy: whoever has it may write over it.
func (r *row[T]) all() []T { return slices.Clone(r.things) }
