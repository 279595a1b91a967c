// Package gate is layer 1: see shared/doc/01-gate.md.
package gate

import (
	"sync"
	"sync/atomic"
)

// markCount is how many marks there are.
const markCount = 256

// Counter gives numbers out, each once, up to a limit.
type Counter struct {
	next  atomic.Uint64 // never above limit, so that limit - next does not go round
	limit uint64
}

// Once holds the first value that it is told.
type Once struct {
	first sync.Once
	value uint64
	told  atomic.Bool // a sync.Once can't be asked whether it was done
}

// Marks are 256 marks.
type Marks struct {
	mutex sync.Mutex // one lock for all, so that Count never mixes marks of two moments
	set   [markCount]bool
}

// New is a counter whose first number is from, and whose last one lies below limit.
func New(from, limit uint64) *Counter {
	c := &Counter{limit: limit}
	c.next.Store(min(from, limit))
	return c
}

// Block gives n numbers out, one behind the other: the first of them; false: so many are not left, and none is given out.
func (c *Counter) Block(n uint64) (uint64, bool) {
	if c == nil || n == 0 {
		return 0, false
	}
	for {
		first := c.next.Load()
		// The difference is held against n, and not the sum against limit: the sum may go round.
		if n > c.limit-first {
			return 0, false
		}
		// This fails only if somebody else has gone on meanwhile, and next rises at most to limit: so the loop ends.
		if c.next.CompareAndSwap(first, first+n) {
			return first, true
		}
	}
}

// Next gives a number out.
func (c *Counter) Next() (uint64, bool) {
	return c.Block(1)
}

// Raise lets the numbers go on from to, if they haven't come to it.
func (c *Counter) Raise(to uint64) {
	if c == nil {
		return
	}
	to = min(to, c.limit)
	for {
		next := c.next.Load()
		if next >= to || c.next.CompareAndSwap(next, to) {
			return
		}
	}
}

// Left answers the number that comes next, and how many are left.
func (c *Counter) Left() (uint64, uint64) {
	if c == nil {
		return 0, 0
	}
	next := c.next.Load()
	return next, c.limit - next
}

// Do tells a value, and answers the first one that was told.
func (o *Once) Do(v uint64) uint64 {
	if o == nil {
		return 0
	}
	o.first.Do(func() {
		o.value = v
		// Behind the value: who sees that one was told may read it.
		o.told.Store(true)
	})
	return o.value
}

// Value is the first value that was told; false: none was.
func (o *Once) Value() (uint64, bool) {
	if o == nil || !o.told.Load() {
		return 0, false
	}
	return o.value, true
}

// Set sets a mark; false: it was set, or there is none.
func (m *Marks) Set(i int) bool {
	return m.turn(i, true)
}

// Clear clears a mark; false: it was clear, or there is none.
func (m *Marks) Clear(i int) bool {
	return m.turn(i, false)
}

// turn lets a mark be as it is asked to, and tells whether it was the other way.
func (m *Marks) turn(i int, set bool) bool {
	if m == nil || !isMark(i) {
		return false
	}
	m.mutex.Lock()
	defer m.mutex.Unlock()
	turned := m.set[i] != set
	m.set[i] = set
	return turned
}

// Has tells whether a mark is set.
func (m *Marks) Has(i int) bool {
	if m == nil || !isMark(i) {
		return false
	}
	m.mutex.Lock()
	defer m.mutex.Unlock()
	return m.set[i]
}

// Count answers how many marks are set.
func (m *Marks) Count() int {
	if m == nil {
		return 0
	}
	m.mutex.Lock()
	defer m.mutex.Unlock()
	count := 0
	for i := range m.set {
		if m.set[i] {
			count++
		}
	}
	return count
}

// isMark tells whether there is a mark of that number.
func isMark(i int) bool {
	return 0 <= i && i < markCount
}
