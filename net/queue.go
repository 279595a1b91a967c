package net

import "slices"

// queue holds things in the order in which they came.
type queue[T any] struct {
	list []T
}

func (q *queue[T]) count() int {
	return len(q.list)
}

func (q *queue[T]) add(x T) {
	q.list = append(q.list, x)
}

// round is the place that a number names, counted round; false: nothing is held.
func (q *queue[T]) round(i int) (int, bool) {
	count := len(q.list)
	if count == 0 {
		return 0, false
	}
	at := i % count
	// Go's remainder has the sign of i.
	if at < 0 {
		at += count
	}
	return at, true
}

func (q *queue[T]) get(at int) T {
	return q.list[at]
}

// remove takes out what stands at a place; the others stay in their order.
func (q *queue[T]) remove(at int) T {
	x := q.list[at]
	// Delete clears the room that gets free, so that nothing that is gone is held there.
	q.list = slices.Delete(q.list, at, at+1)
	return x
}
