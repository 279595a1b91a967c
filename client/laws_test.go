package client

import (
	"fmt"
	"slices"
	"testing"

	"penstock/api"
	"penstock/batch"
	"penstock/group"
)

// record is a record that is committed.
type record struct {
	offset int
	value  string
}

// committed are the records that a log says, in their order.
func committed(log []api.Batch) []record {
	var list []record
	for i, b := range log {
		if b.Control || b.Txn && !ends(log[i:], b.Pid) {
			continue
		}
		for n, v := range b.Values {
			list = append(list, record{b.Base + n, string(v)})
		}
	}
	return list
}

// ends tells whether the first marker of a producer commits.
func ends(log []api.Batch, pid uint64) bool {
	i := slices.IndexFunc(log, func(b api.Batch) bool { return b.Control && b.Pid == pid })
	return i >= 0 && log[i].Commit
}

// laws holds what the clients have seen against what is committed in the end: P5 to P9.
func (x *world) laws() {
	x.t.Helper()
	var all [][]record
	for k := range x.config.Parts {
		all = append(all, committed(x.log(k)))
	}
	for number, c := range x.clients {
		list := c.Trace()
		what := fmt.Sprintf("client %d", number)
		wantWhole(x.t, what, x.config.Clients[number].Ops, list, all)
		wantRead(x.t, what, list, all)
		x.wantSought(number, list)
	}
	for k := range all {
		x.wantOrder(k, all[k])
	}
}

// deal is what a client has seen of a transaction: its records, and how it has ended (0: that isn't seen).
type deal struct {
	sent []api.Seen
	end  int
}

// deals are the client's transactions, in their order.
func deals(ops []api.Op, list []api.Seen) []deal {
	var all []deal
	var d deal
	for _, s := range list {
		switch s.Kind {
		case api.TrSent:
			d.sent = append(d.sent, s)
		case api.TrCommit, api.TrAbort:
			d.end = s.Kind
		case api.TrFailed:
			if s.E == api.ErrTxn {
				d.end = s.Kind
			}
		}
		// By an OCopy no other's records are written.
		if d.end != 0 {
			all = append(all, d)
			d = deal{}
		}
	}
	return append(all, d)
}

// wantWhole is P5: of each transaction all records are committed, once each, or none, as the client has seen.
func wantWhole(t *testing.T, what string, ops []api.Op, list []api.Seen, all [][]record) {
	t.Helper()
	for _, d := range deals(ops, list) {
		there := 0
		for _, s := range d.sent {
			if slices.Contains(all[s.Part], record{s.Offset, s.Value}) {
				there++
			}
			if op := ops[s.Op]; op.Kind != api.OSend || op.Part != s.Part || op.Value != s.Value {
				t.Errorf("%s: %+v of %+v", what, s, op)
			}
		}
		whole, none := there == len(d.sent), there == 0
		if d.end == api.TrCommit && !whole || (d.end == api.TrAbort || d.end == api.TrFailed) && !none || !whole && !none {
			t.Errorf("%s: of %+v %d of %d records are committed", what, d, there, len(d.sent))
		}
	}
}

// wantRead is P7: from where it seeks on a client reads what is committed, in order, without a gap, and nothing twice.
func wantRead(t *testing.T, what string, list []api.Seen, all [][]record) {
	t.Helper()
	at := map[int]int{} // of each partition, from where on the next record is
	for _, s := range list {
		switch s.Kind {
		case api.TrSeek:
			at[s.Part] = s.Offset
		case api.TrRead:
			from, sought := at[s.Part]
			i := slices.IndexFunc(all[s.Part], func(r record) bool { return r.offset >= from })
			if want := (record{s.Offset, s.Value}); !sought || i < 0 || all[s.Part][i] != want {
				t.Errorf("%s: from %d on it reads %+v of %v", what, from, s, all[s.Part])
			}
			at[s.Part] = s.Offset + 1
		}
	}
}

// wantSought is P8: where a client seeks, the group has once come to.
func (x *world) wantSought(number int, list []api.Seen) {
	x.t.Helper()
	been := map[[2]int]bool{}
	log := x.log(x.config.Parts + 1)
	for i, b := range log {
		if b.Control || b.Txn && !ends(log[i:], b.Pid) {
			continue
		}
		for _, v := range b.Values {
			if r, e := group.Decode(v); e == api.OK && r.Kind == api.GOff && r.Group == x.config.Clients[number].Group {
				been[[2]int{r.Part, r.Offset}] = true
			}
		}
	}
	for _, s := range list {
		if s.Kind == api.TrSeek && s.Offset != 0 && !been[[2]int{s.Part, s.Offset}] {
			x.t.Errorf("client %d: %+v, where the group has never come to", number, s)
		}
	}
}

// wantOrder is P6 and P9: what one client writes stands in a partition once each, in the order of its program, and so does what a group copies there, in the order of what it copies.
func (x *world) wantOrder(k int, list []record) {
	x.t.Helper()
	last := map[byte]string{}
	there := map[string]bool{}
	for _, r := range list {
		if r.value <= last[r.value[0]] || there[r.value] {
			x.t.Errorf("partition %d: %q stands behind %q", k, r.value, last[r.value[0]])
		}
		last[r.value[0]], there[r.value] = r.value, true
	}
}

// wantCopied is P9: what is copied stands in the order of what it was copied from, once each.
func (x *world) wantCopied(from, to int) {
	x.t.Helper()
	source, copied := committed(x.log(from)), committed(x.log(to))
	i := 0
	for _, r := range copied {
		for i < len(source) && source[i].value != r.value {
			i++
		}
		if i == len(source) {
			x.t.Errorf("copied: %v\nof %v", copied, source)
			return
		}
		i++
	}
}

func sizeOf(log []api.Batch) int {
	if len(log) == 0 {
		return 0
	}
	last := log[len(log)-1]
	return last.Base + batch.Size(last)
}
