// Package crc is layer 2: see shared/doc/02-crc.md.
package crc

import "sync"

// polynomial is CRC-32C's, its bits turned about, since the least bit of a byte comes first.
const polynomial = 0x82f63b78

// Table makes its table when it is first asked.
type Table struct {
	made  sync.Once // within the object, so that the zero Table is as good as New's
	steps [256]uint32
}

// New is a table.
func New() *Table {
	return &Table{}
}

// More is the sum of what has the sum so far, and of these bytes behind it.
func (t *Table) More(sum uint32, b []byte) uint32 {
	if t == nil {
		return 0
	}
	t.made.Do(t.fill)
	// A sum is the register turned about: turned once more it goes on where it had come to.
	register := ^sum
	for _, x := range b {
		register = t.steps[byte(register)^x] ^ register>>8
	}
	return ^register
}

// Sum is the sum of bytes.
func (t *Table) Sum(b []byte) uint32 {
	return t.More(0, b)
}

// fill works out, for each byte that the register's least eight bits and a byte of the text make together, what eight steps do.
func (t *Table) fill() {
	for i := range t.steps {
		t.steps[i] = eightSteps(uint32(i))
	}
}

// eightSteps takes a register by eight bits to the right.
func eightSteps(register uint32) uint32 {
	for range 8 {
		low := register & 1
		register >>= 1
		if low == 1 {
			register ^= polynomial
		}
	}
	return register
}
