package replica

import (
	"math"
	"slices"

	"penstock/api"
	"penstock/batch"
	"penstock/epochs"
	"penstock/prod"
)

// Stable answers up to where, below the high watermark, no transaction is open.
func (r *Replica) Stable() int {
	if r.unopened() {
		return 0
	}
	if first, open := r.settled.Unstable(); open {
		return first
	}
	return r.high
}

// Committed answers at most n batches from an offset on, that lie below where a transaction is open, and the transactions among them that were aborted.
func (r *Replica) Committed(from, n int) ([]api.Batch, []api.Abort, int) {
	if r.unopened() {
		return nil, nil, 0
	}
	stable := r.Stable()
	behind := func(b api.Batch) bool { return endOf(b) > stable }
	list := slices.DeleteFunc(r.log.Read(from, n), behind)
	if len(list) == 0 {
		return nil, nil, stable
	}
	return list, r.known.Aborts(list[0].Base, endOf(list[len(list)-1])), stable
}

// Log answers the log's batches, all of them.
func (r *Replica) Log() []api.Batch {
	if r.unopened() {
		return nil
	}
	return r.log.Read(r.log.Start(), math.MaxInt)
}

// lay puts a batch behind the log. It lasts ahead of all that may rest on it.
func (r *Replica) lay(b api.Batch) api.Errno {
	if e := r.log.Put(b); e != api.OK {
		return e
	}
	if e := r.log.Flush(); e != api.OK {
		return e
	}
	r.note(b)
	r.settle()
	return api.OK
}

// cut takes the batches away that end behind an offset. What was noted of them can't be taken back, so it is learnt anew.
func (r *Replica) cut(to int) api.Errno {
	if e := r.log.Truncate(to); e != api.OK {
		return e
	}
	r.learn()
	return api.OK
}

// learn takes note of all that stands in the log.
func (r *Replica) learn() {
	r.known, r.begins, r.last = prod.New(), epochs.New(), none
	for _, b := range r.Log() {
		r.note(b)
	}
}

// note takes note of a batch that stands behind all others of the log.
func (r *Replica) note(b api.Batch) {
	r.known.Apply(b)
	// An epoch below one that stands ahead of it is refused: it begins nowhere.
	r.begins.Assign(b.Epoch, b.Base)
	r.last = b.Epoch
}

// raise lets the high watermark be at an offset, if it is below that.
func (r *Replica) raise(to int) {
	if to <= r.high {
		return
	}
	r.high = to
	r.settle()
}

// settle takes note of the batches that have come to end up to the high watermark.
func (r *Replica) settle() {
	for {
		next := r.log.Read(r.passed, 1)
		if len(next) == 0 || endOf(next[0]) > r.high {
			return
		}
		r.settled.Apply(next[0])
		r.passed = endOf(next[0])
	}
}

// endOfEpoch is the greatest epoch of the log up to one, and where it ends; -1 and 0, if there is none.
func (r *Replica) endOfEpoch(epoch int) (int, int) {
	found, end, ok := r.begins.End(epoch, r.log.End())
	if !ok {
		return none, 0
	}
	return found, end
}

// endOf is the offset behind a batch.
func endOf(b api.Batch) int {
	return b.Base + batch.Size(b)
}
