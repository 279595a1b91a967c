package cluster

import (
	"slices"

	"penstock/api"
	"penstock/batch"
	"penstock/model"
)

// book is what was seen of the nodes.
type book struct {
	entries map[int]string // of the quorum's log, by their index
	last    int            // the greatest index
	parts   []shelf
}

// shelf is what was seen of a partition: its log, as far as it was below a high watermark, and the greatest one.
type shelf struct {
	log  []api.Batch
	high int
}

func newBook(c api.Config) book {
	return book{entries: map[int]string{}, parts: make([]shelf, c.Parts+2)}
}

func (r *run) lookAll() {
	r.t.Helper()
	for id := range r.c.Nodes {
		r.look(id)
	}
}

// look looks at a node: P3, and P4.
func (r *run) look(id int) {
	r.t.Helper()
	for _, c := range r.x.Applied(id) {
		if text, ok := r.book.entries[c.Index]; ok && text != string(c.Data) {
			r.t.Fatalf("the node %d has applied %q at %d, where another one had %q", id, c.Data, c.Index, text)
		}
		r.book.entries[c.Index] = string(c.Data)
		r.book.last = max(r.book.last, c.Index)
	}
	for k := range r.book.parts {
		log, high, _ := r.x.Part(id, k)
		if endOf(log) < high {
			r.t.Fatalf("partition %d: the node %d has %d as its high watermark, but its log is %+v", k, id, high, log)
		}
		s := &r.book.parts[k]
		if !model.Agree(log, s.log, min(high, s.high)) {
			r.t.Fatalf("partition %d: up to %d the node %d has %+v\nup to %d there was %+v", k, high, id, log, s.high, s.log)
		}
		if high > s.high {
			s.log, s.high = below(log, high), high
		}
	}
}

// below are a log's batches that begin ahead of an offset.
func below(log []api.Batch, high int) []api.Batch {
	i := slices.IndexFunc(log, func(b api.Batch) bool { return b.Base >= high })
	if i < 0 {
		return log
	}
	return log[:i]
}

func endOf(log []api.Batch) int {
	if len(log) == 0 {
		return 0
	}
	last := log[len(log)-1]
	return last.Base + batch.Size(last)
}
