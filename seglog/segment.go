package seglog

import (
	"bytes"
	"slices"

	"penstock/api"
	"penstock/batch"
)

// segment is a file, and what stands in it. The batches are kept beside the disk, since one that has broken tells nothing, and Read has no error to tell that by.
type segment struct {
	base    int // the offset from which on it goes
	batches []laid
	lasting int // how many of its bytes last
}

// laid is a batch in a segment.
type laid struct {
	batch api.Batch
	upTo  int // how many bytes the file has up to its end
}

// end is the offset behind the batch.
func (x laid) end() int {
	return x.batch.Base + batch.Size(x.batch)
}

// end is the offset behind the segment's last batch.
func (s *segment) end() int {
	if len(s.batches) == 0 {
		return s.base
	}
	return s.batches[len(s.batches)-1].end()
}

// size is how many bytes the segment's file has.
func (s *segment) size() int {
	if len(s.batches) == 0 {
		return 0
	}
	return s.batches[len(s.batches)-1].upTo
}

// synced is the offset up to which the segment's batches last.
func (s *segment) synced() int {
	if s.lasting == s.size() {
		return s.end()
	}
	synced := s.base
	for _, x := range s.batches {
		if x.upTo > s.lasting {
			break
		}
		synced = x.end()
	}
	return synced
}

// upTo is how many batches, from the front, don't end behind an offset.
func (s *segment) upTo(to int) int {
	for i, x := range s.batches {
		if x.end() > to {
			return i
		}
	}
	return len(s.batches)
}

// add puts a batch, whose frame has that many bytes, behind the others.
func (s *segment) add(b api.Batch, size int) {
	s.batches = append(s.batches, laid{batch: b, upTo: s.size() + size})
}

// keep leaves the first n batches.
func (s *segment) keep(n int) {
	s.batches = slices.Delete(s.batches, n, len(s.batches))
	s.lasting = min(s.lasting, s.size())
}

// copied is a batch that shares no memory with another one.
func copied(b api.Batch) api.Batch {
	b.Values = slices.Clone(b.Values)
	for i, v := range b.Values {
		b.Values[i] = bytes.Clone(v)
	}
	return b
}
