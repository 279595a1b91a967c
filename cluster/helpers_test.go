package cluster

import (
	"slices"
	"testing"

	"penstock/api"
)

func send(part int, value string) api.Op { return api.Op{Kind: api.OSend, Part: part, Value: value} }
func poll(count int) api.Op              { return api.Op{Kind: api.OPoll, Count: count} }
func duplicate(from, to, count int) api.Op {
	return api.Op{Kind: api.OCopy, Part: from, To: to, Count: count}
}

var (
	commits = api.Op{Kind: api.OCommit}
	aborts  = api.Op{Kind: api.OAbort}
)

// sees is what the client 0 sees.
func sees(kind, op int) api.Seen { return api.Seen{Kind: kind, Op: op} }
func sent(op, part, offset int, value string) api.Seen {
	return api.Seen{Kind: api.TrSent, Op: op, Part: part, Offset: offset, Value: value}
}
func read(op, part, offset int, value string) api.Seen {
	return api.Seen{Kind: api.TrRead, Op: op, Part: part, Offset: offset, Value: value}
}
func seek(op, part, offset int) api.Seen {
	return api.Seen{Kind: api.TrSeek, Op: op, Part: part, Offset: offset}
}

// settings are those of so many nodes and data partitions, a copy on each node, and clients with these programs.
func settings(nodes, parts int, programs ...[]api.Op) api.Config {
	c := api.Config{Nodes: nodes, Parts: parts, Copies: nodes}
	for _, ops := range programs {
		c.Clients = append(c.Clients, api.Program{Ops: ops})
	}
	return c
}

// opsOf is the number of all operations.
func opsOf(c api.Config) int {
	count := 0
	for _, p := range c.Clients {
		count += len(p.Ops)
	}
	return count
}

// boundOf is within how many calm rounds all programs end: P10.
func boundOf(c api.Config) int {
	return 600 + 60*opsOf(c)
}

// restOf is by how many calm rounds what was left open is surely aborted, and done with.
func restOf(c api.Config) int {
	longest := 0
	for _, p := range c.Clients {
		rounds := 0
		for _, o := range p.Ops {
			rounds += 10
			if o.Kind == api.OPoll {
				rounds += 90
			}
		}
		longest = max(longest, rounds)
	}
	return 300 + longest
}

// run is a cluster under way, and what was seen of it from outside.
type run struct {
	t      *testing.T
	c      api.Config
	x      *Cluster
	rounds int
	events int // that were no calm rounds'
	down   []int
	book   book
}

func newRun(t *testing.T, c api.Config) *run {
	t.Helper()
	x, e := New(c)
	if x == nil || e != api.OK {
		t.Fatalf("New(%+v) = %v, %d", c, x, e)
	}
	return &run{t: t, c: c, x: x, book: newBook(c)}
}

// do does an event; what a node knew ahead of its end is looked at.
func (r *run) do(e api.Event) {
	r.t.Helper()
	r.events++
	if e.Kind == api.ECrash || e.Kind == api.ERise {
		r.look(round(e.A, r.c.Nodes))
	}
	r.x.Do(e)
	if r.events%40 == 0 {
		r.lookAll()
	}
}

// play does the events of a script's bytes.
func (r *run) play(script []byte) {
	r.t.Helper()
	for ; len(script) >= 4; script = script[4:] {
		r.do(api.Event{Kind: int(script[0]) % 10, A: int(int8(script[1])), B: int(int8(script[2])), C: int(int8(script[3]))})
	}
}

// breaks lets a node be down from now on, for ever.
func (r *run) breaks(id int) {
	r.t.Helper()
	r.do(api.Event{Kind: api.ECrash, A: id, B: -1})
	r.down = append(r.down, id)
}

// calm lets everything go again, and starts all nodes anew.
func (r *run) calm(left int) {
	r.t.Helper()
	r.x.Do(api.Event{Kind: api.EHeal})
	r.riseAll(left)
}

// riseAll starts all nodes anew, but for those that stay down.
func (r *run) riseAll(left int) {
	r.t.Helper()
	r.lookAll()
	for id := range r.c.Nodes {
		if !slices.Contains(r.down, id) {
			r.x.Do(api.Event{Kind: api.ERise, A: id, C: left})
		}
	}
}

// round are the events of a calm round, but for nodes that stay down, as long as they are wanted.
func (r *run) round(yield func(api.Event) bool) {
	for id := range r.c.Nodes {
		if !r.x.Up(id) && !slices.Contains(r.down, id) && !yield(api.Event{Kind: api.ERise, A: id}) {
			return
		}
	}
	for range r.x.Flight() {
		if !yield(api.Event{}) {
			return
		}
	}
	for i := range r.c.Nodes + len(r.c.Clients) {
		if !yield(api.Event{Kind: api.ETick, A: i, B: i + 7*r.rounds}) {
			return
		}
	}
	r.rounds++
}

// calmRounds: as many rounds, in each of which all that is under way is delivered, and each clock goes on.
func (r *run) calmRounds(count int) {
	r.t.Helper()
	for range count {
		for e := range r.round {
			r.x.Do(e)
		}
	}
	r.lookAll()
}

// finish lets calm rounds go by till all programs have ended: P10.
func (r *run) finish() {
	r.t.Helper()
	for left := boundOf(r.c); left > 0 && !r.x.Done(); {
		few := min(left, 10)
		r.calmRounds(few)
		left -= few
	}
	if !r.x.Done() {
		r.t.Fatalf("not all programs have ended within %d rounds: %+v", boundOf(r.c), r.x.Trace())
	}
}

// until lets calm rounds go on till the trace has so many of a kind, and not an event more.
func (r *run) until(kind, count int) {
	r.t.Helper()
	for range boundOf(r.c) {
		for e := range r.round {
			if countOf(r.x.Trace(), kind) >= count {
				return
			}
			r.x.Do(e)
		}
	}
	r.t.Fatalf("there are never %d of the kind %d: %+v", count, kind, r.x.Trace())
}

func countOf(list []api.Seen, kind int) int {
	count := 0
	for _, s := range list {
		if s.Kind == kind {
			count++
		}
	}
	return count
}

// leader is the node that leads a partition; -1: none, or more than one.
func (r *run) leader(k int) int {
	found := -1
	for id := range r.c.Nodes {
		if _, _, leads := r.x.Part(id, k); leads {
			if found >= 0 {
				return -1
			}
			found = id
		}
	}
	return found
}

// wantTrace: all has ended, and this is what was seen, in all.
func (r *run) wantTrace(want ...api.Seen) {
	r.t.Helper()
	r.finish()
	if got := r.x.Trace(); !slices.Equal(got, want) {
		r.t.Errorf("seen: %+v\nwant: %+v", got, want)
	}
	r.laws()
}
