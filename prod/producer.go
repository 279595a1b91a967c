package prod

import (
	"slices"

	"penstock/api"
	"penstock/batch"
)

// producer is what is known of one of them.
type producer struct {
	epoch int
	next  int    // the number that comes next
	last  []sent // the latest Window batches of the epoch, the oldest ahead
	open  bool   // apart from first: what is applied isn't checked, so no offset is left to say that none is open
	first int    // where the open transaction begins
}

// sent is one of a producer's last batches.
type sent struct {
	key  key
	base int
}

// key is what a batch is known again by: when it is sent again its offset and the leader's epoch aren't known yet.
type key struct{ seq, values int }

func keyOf(b api.Batch) key {
	return key{b.Seq, len(b.Values)}
}

// at is a producer, as it is when a batch of an epoch comes: if that epoch is its first one, or above its own, none of its batches counts any more, but a transaction stays open till a marker ends it.
func (t *Table) at(pid uint64, epoch int) producer {
	p, known := t.producers[pid]
	if !known || p.epoch < epoch {
		p.epoch, p.next, p.last = epoch, 0, nil
	}
	return p
}

// find is the offset of the first one of the last batches that is known by this.
func (p *producer) find(k key) (int, bool) {
	for _, s := range p.last {
		if s.key == k {
			return s.base, true
		}
	}
	return 0, false
}

// add takes note of a batch of records.
func (p *producer) add(b api.Batch) {
	if len(p.last) == api.Window {
		p.last = slices.Delete(p.last, 0, 1)
	}
	p.last = append(p.last, sent{keyOf(b), b.Base})
	p.next = b.Seq + batch.Size(b)
	if b.Txn && !p.open {
		p.open, p.first = true, b.Base
	}
}
