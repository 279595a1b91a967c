package cluster

import (
	"slices"

	"penstock/api"
	"penstock/group"
	"penstock/model"
)

// deed is a transaction of a client's, as its trace tells: what it has sent, what it has copied, and how it has ended (0: that isn't seen).
type deed struct {
	sent, copied []api.Seen
	op, end      int
}

// deedsOf are a client's transactions, in their order.
func deedsOf(p api.Program, list []api.Seen) []deed {
	var all []deed
	var d deed
	for _, s := range list {
		copies := s.Op < len(p.Ops) && p.Ops[s.Op].Kind == api.OCopy
		switch {
		case s.Kind == api.TrSent:
			d.sent = append(d.sent, s)
		case s.Kind == api.TrSeek:
			d.copied = nil
		case s.Kind == api.TrRead && copies:
			d.copied = append(d.copied, s)
		case s.Kind == api.TrCommit, s.Kind == api.TrAbort, s.Kind == api.TrFailed && s.E == api.ErrTxn:
			d.op, d.end = s.Op, s.Kind
			// What was read by an OCopy that came to nothing else is copied by none.
			if len(d.copied) > 0 && d.copied[0].Op != s.Op {
				d.copied = nil
			}
			all = append(all, d)
			d = deed{}
		}
	}
	return append(all, d)
}

// of is the part of the trace that one client has seen.
func (r *run) of(number int) []api.Seen {
	return slices.DeleteFunc(r.x.Trace(), func(s api.Seen) bool { return s.Client != number })
}

// log is a partition's log, by the node with the greatest high watermark.
func (r *run) log(k int) ([]api.Batch, int) {
	var best []api.Batch
	most := -1
	for id := range r.c.Nodes {
		if log, high, _ := r.x.Part(id, k); r.x.Up(id) && high > most {
			best, most = log, high
		}
	}
	return best, most
}

// committed are the records that are committed in a partition.
func (r *run) committed(k int) []model.Record {
	log, high := r.log(k)
	return model.Committed(log, high)
}

// laws lets what is left open come to its end, and holds all that the clients have seen against what is committed: P5 to P9.
func (r *run) laws() {
	r.t.Helper()
	r.rest()
	var all [][]model.Record
	for k := range r.c.Parts {
		all = append(all, r.committed(k))
	}
	for number, p := range r.c.Clients {
		r.wantWhole(number, p, all)
		r.wantRead(number, all)
		r.wantSought(number, p)
	}
	r.wantThere(all)
	r.wantCopied()
	r.wantAllRead(all)
}

// rest lets calm rounds go by till nothing is open any more, in no partition.
func (r *run) rest() {
	r.t.Helper()
	r.calmRounds(100)
	for left := restOf(r.c); left > 0 && len(r.unstable()) > 0; left -= 20 {
		r.calmRounds(20)
	}
	for _, k := range r.unstable() {
		log, high := r.log(k)
		r.t.Errorf("partition %d: stable up to %d, committed up to %d, and ends at %d", k, model.Stable(log, high), high, endOf(log))
	}
}

// unstable are the partitions in which something is open, or not committed.
func (r *run) unstable() []int {
	var list []int
	for k := range r.c.Parts + 2 {
		if log, high := r.log(k); model.Stable(log, high) != high || endOf(log) != high {
			list = append(list, k)
		}
	}
	return list
}

// at is the place of a partition's record at an offset; -1: there is none.
func at(list []model.Record, offset int) int {
	return slices.IndexFunc(list, func(m model.Record) bool { return m.Offset == offset })
}

// wantWhole is P5 and P6: of each transaction all records are committed, at the offsets that were seen, or none; those that are stand in the order of the program.
func (r *run) wantWhole(number int, p api.Program, all [][]model.Record) {
	r.t.Helper()
	last := map[int]int{} // of each partition, behind the last offset
	for _, d := range deedsOf(p, r.of(number)) {
		there := 0
		for _, s := range d.sent {
			if op := p.Ops[s.Op]; op.Kind != api.OSend || op.Part != s.Part || op.Value != s.Value {
				r.t.Errorf("client %d: %+v, of %+v", number, s, op)
			}
			i := at(all[s.Part], s.Offset)
			if i < 0 || all[s.Part][i].Value != s.Value {
				continue
			}
			there++
			if s.Offset < last[s.Part] {
				r.t.Errorf("client %d: %+v stands ahead of %d", number, s, last[s.Part])
			}
			last[s.Part] = s.Offset + 1
		}
		// What was open when the program ended is aborted.
		if whole := d.end == api.TrCommit; whole && there < len(d.sent) || !whole && there > 0 {
			r.t.Errorf("client %d: of %+v %d of %d records are committed", number, d, there, len(d.sent))
		}
	}
}

// wantRead is P7: from where it seeks on a client reads what is committed, in order, without a gap, and nothing twice.
func (r *run) wantRead(number int, all [][]model.Record) {
	r.t.Helper()
	from := map[int]int{} // of each partition, where the next one is looked for
	for _, s := range r.of(number) {
		switch s.Kind {
		case api.TrSeek:
			from[s.Part] = s.Offset
		case api.TrRead:
			begin, sought := from[s.Part]
			i := slices.IndexFunc(all[s.Part], func(m model.Record) bool { return m.Offset >= begin })
			if !sought || i < 0 || all[s.Part][i].Offset != s.Offset || all[s.Part][i].Value != s.Value {
				r.t.Errorf("client %d: behind %d it reads %+v of %+v", number, begin, s, all[s.Part])
			}
			from[s.Part] = s.Offset + 1
		}
	}
}

// come are the groups' records that are committed, of how far they have come.
func (r *run) come() []api.GrRec {
	var list []api.GrRec
	for _, m := range r.committed(r.c.Parts + 1) {
		if g, e := group.Decode([]byte(m.Value)); e == api.OK && g.Kind == api.GOff {
			list = append(list, g)
		}
	}
	return list
}

// wantSought is P8: where a client seeks, its group has come to.
func (r *run) wantSought(number int, p api.Program) {
	r.t.Helper()
	come := map[[2]int]struct{}{}
	for _, g := range r.come() {
		if g.Group == p.Group {
			come[[2]int{g.Part, g.Offset}] = struct{}{}
		}
	}
	for _, s := range r.of(number) {
		if s.Kind != api.TrSeek || s.Offset == 0 {
			continue
		}
		if _, ok := come[[2]int{s.Part, s.Offset}]; !ok {
			r.t.Errorf("client %d: %+v, where its group has never come to", number, s)
		}
	}
}

// wantThere: in each partition there is what was sent and copied by transactions that were committed, as often, and nothing else: P5 and P9.
func (r *run) wantThere(all [][]model.Record) {
	r.t.Helper()
	want := make([][]string, len(all))
	for number, p := range r.c.Clients {
		for _, d := range deedsOf(p, r.of(number)) {
			if d.end != api.TrCommit {
				continue
			}
			for _, s := range d.sent {
				want[s.Part] = append(want[s.Part], s.Value)
			}
			for _, s := range d.copied {
				if to := p.Ops[d.op].To; p.Ops[d.op].Kind == api.OCopy {
					want[to] = append(want[to], s.Value)
				}
			}
		}
	}
	for k, list := range all {
		var got []string
		for _, m := range list {
			got = append(got, m.Value)
		}
		slices.Sort(got)
		slices.Sort(want[k])
		if !slices.Equal(got, want[k]) {
			r.t.Errorf("partition %d: there are %q\nthere should be %q", k, got, want[k])
		}
	}
}

// wantCopied is P9: a group copies no record of a partition to another one twice, and what it copies stands there in its order, as far as the values tell which is which.
func (r *run) wantCopied() {
	r.t.Helper()
	type way struct{ group, from, to int }
	copied := map[way][]api.Seen{}
	for number, p := range r.c.Clients {
		for _, d := range deedsOf(p, r.of(number)) {
			if d.end == api.TrCommit && len(d.copied) > 0 {
				w := way{p.Group, p.Ops[d.op].Part, p.Ops[d.op].To}
				copied[w] = append(copied[w], d.copied...)
			}
		}
	}
	for w, list := range copied {
		slices.SortFunc(list, func(a, b api.Seen) int { return a.Offset - b.Offset })
		last := -1
		for i, s := range list {
			if i > 0 && s.Offset == list[i-1].Offset {
				r.t.Errorf("group %d has copied %+v twice to %d", w.group, s, w.to)
			}
			place, only := r.placeOf(w.to, s.Value)
			if !only {
				continue
			}
			if place < last {
				r.t.Errorf("group %d: %+v stands at %d of %d, ahead of what it is behind", w.group, s, place, w.to)
			}
			last = place
		}
	}
}

// wantAllRead: where a group has come to, all that is ahead of it was read by an OPoll, or copied.
func (r *run) wantAllRead(all [][]model.Record) {
	r.t.Helper()
	last := map[[2]int]int{} // of a group and a partition, how far it has come
	for _, g := range r.come() {
		last[[2]int{g.Group, g.Part}] = g.Offset
	}
	been := map[[3]int]struct{}{} // of a group and a partition, the offsets
	for number, p := range r.c.Clients {
		list := slices.DeleteFunc(r.of(number), func(s api.Seen) bool { return s.Kind != api.TrRead || p.Ops[s.Op].Kind != api.OPoll })
		for _, d := range deedsOf(p, r.of(number)) {
			if d.end == api.TrCommit {
				list = append(list, d.copied...)
			}
		}
		for _, s := range list {
			been[[3]int{p.Group, s.Part, s.Offset}] = struct{}{}
		}
	}
	for key, offset := range last {
		for _, m := range all[key[1]] {
			if _, ok := been[[3]int{key[0], key[1], m.Offset}]; !ok && m.Offset < offset {
				r.t.Errorf("group %d has come to %d of the partition %d, but %+v was read by none", key[0], offset, key[1], m)
			}
		}
	}
}

// placeOf is the offset at which a value is committed in a partition, and whether it stands there once.
func (r *run) placeOf(k int, value string) (int, bool) {
	place, count := -1, 0
	for _, m := range r.committed(k) {
		if m.Value == value {
			place, count = m.Offset, count+1
		}
	}
	return place, count == 1
}
