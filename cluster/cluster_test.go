package cluster

import (
	"reflect"
	"slices"
	"strings"
	"testing"

	"penstock/api"
	"penstock/image"
)

// many are so many operations.
func many(count int) []api.Op {
	return slices.Repeat([]api.Op{commits}, count)
}

// TestSettings: those that may be, up to their edges, and those that may not.
func TestSettings(t *testing.T) {
	least := settings(1, 1)
	most := settings(api.MaxNodes, api.MaxParts, many(api.MaxOps), nil, nil, nil)
	most.Clients[3].Group = api.MaxTxs - 1
	most.Clients[2].Ops = []api.Op{{Kind: api.OCopy, Part: 3, To: 3, Count: api.MaxValues, Value: strings.Repeat("x", api.MaxValue)}}
	for _, c := range []api.Config{least, most, settings(3, 2, []api.Op{send(1, "")})} {
		if x, e := New(c); x == nil || e != api.OK {
			t.Errorf("New(%+v) = %v, %d", c, x, e)
		}
	}
	of := func(op api.Op) api.Config { return settings(2, 2, nil, []api.Op{commits, op}) }
	few := settings(2, 1)
	few.Copies = 0
	lots := settings(2, 1)
	lots.Copies = 3
	strange := settings(2, 1, nil)
	strange.Clients[0].Group = api.MaxTxs
	for _, c := range []api.Config{
		{}, settings(0, 1), settings(-1, 1), settings(6, 1), settings(1, 0), settings(1, 5), few, lots, strange,
		settings(1, 1, nil, nil, nil, nil, nil), settings(1, 1, many(65)),
		of(api.Op{}), of(api.Op{Kind: 6}), of(send(2, "")), of(send(-1, "")), of(duplicate(0, 2, 1)), of(duplicate(0, -1, 1)),
		of(poll(-1)), of(poll(17)), of(send(0, strings.Repeat("x", 65))),
	} {
		if x, e := New(c); x != nil || e != api.ErrArg {
			t.Errorf("New(%+v) = %v, %d", c, x, e)
		}
	}
}

// TestBeginning: all nodes are started for the first time, and nothing has happened yet.
func TestBeginning(t *testing.T) {
	r := newRun(t, settings(3, 2, nil, []api.Op{commits}))
	if r.x.Flight() != 0 || len(r.x.Trace()) != 0 || r.x.Done() {
		t.Errorf("in flight: %d, seen: %+v, done: %v", r.x.Flight(), r.x.Trace(), r.x.Done())
	}
	for id := range 3 {
		if log, high, leads := r.x.Part(id, 0); !r.x.Up(id) || len(r.x.Applied(id)) != 0 || len(log) != 0 || high != 0 || leads {
			t.Errorf("the node %d: up %v, %+v, %d, %v", id, r.x.Up(id), log, high, leads)
		}
	}
	r.calmRounds(50)
	came := map[int]int{}
	for _, c := range r.x.Applied(1) {
		if cmd, e := image.Decode(c.Data); e == api.OK && cmd.Kind == api.CJoin {
			came[cmd.Node] = cmd.Epoch
		}
	}
	if !reflect.DeepEqual(came, map[int]int{0: 1, 1: 1, 2: 1}) {
		t.Errorf("they have come %v", came)
	}
}

// TestDone: when all programs have ended, an empty one too; of none that is so at once.
func TestDone(t *testing.T) {
	if r := newRun(t, settings(1, 1)); !r.x.Done() {
		t.Error("there is no program that goes on")
	}
	r := newRun(t, settings(1, 1, nil, []api.Op{commits}, nil))
	for i, done := range []bool{false, false, false, true} {
		r.x.Do(api.Event{Kind: api.ETick, A: []int{1, 2, 3, 2}[i]})
		if r.x.Done() != done {
			t.Errorf("behind %d ticks it's done: %v", i+1, !done)
		}
	}
}

// TestNodes: what is told of nodes is told of those that are up, and of no others.
func TestNodes(t *testing.T) {
	r := newRun(t, settings(2, 1, []api.Op{send(0, "a"), commits}))
	r.finish()
	r.calmRounds(5)
	r.breaks(1)
	for _, id := range []int{-2, -1, 1, 2, 3, 1 << 40} {
		log, high, leads := r.x.Part(id, 0)
		if r.x.Up(id) || r.x.Applied(id) != nil || log != nil || high != 0 || leads {
			t.Errorf("the node %d: up %v, applied %+v, %+v, %d, %v", id, r.x.Up(id), r.x.Applied(id), log, high, leads)
		}
	}
	if log, high, leads := r.x.Part(0, 0); !r.x.Up(0) || len(r.x.Applied(0)) == 0 || len(log) != 2 || high != 2 || !leads {
		t.Errorf("the node 0: %+v, %d, %v", log, high, leads)
	}
	for _, k := range []int{-1, 3, 1 << 40} {
		if log, high, leads := r.x.Part(0, k); log != nil || high != 0 || leads {
			t.Errorf("the partition %d: %+v, %d, %v", k, log, high, leads)
		}
	}
	// The coordinators' partitions are told, too.
	if log, high, _ := r.x.Part(0, 1); len(log) == 0 || high == 0 {
		t.Errorf("the transactions' partition: %+v, %d", log, high)
	}
}

// TestNil: nothing is told of no cluster, and nothing happens to it.
func TestNil(t *testing.T) {
	for _, x := range []*Cluster{nil, {}} {
		for kind := -1; kind <= 10; kind++ {
			x.Do(api.Event{Kind: kind, A: 1, B: 2, C: 3})
		}
		log, high, leads := x.Part(0, 0)
		if x.Trace() != nil || x.Flight() != 0 || x.Up(0) || x.Applied(0) != nil || log != nil || high != 0 || leads {
			t.Errorf("of %+v something is told", x)
		}
	}
	var none *Cluster
	if none.Done() {
		t.Error("nothing isn't done")
	}
}

// TestTraceInOrder: what clients see stands in the order in which they do, and by the event by which they do.
func TestTraceInOrder(t *testing.T) {
	ops := []api.Op{send(0, "a"), commits, poll(3), commits}
	r := newRun(t, settings(2, 1, ops, ops, ops))
	known, changes := 0, 0
	for !r.x.Done() {
		for e := range r.round {
			to := e.A
			if p, ok := r.x.way.Peek(e.A); ok && e.Kind == api.EDeliver {
				to = p.To
			}
			r.x.Do(e)
			list := r.x.Trace()
			for _, s := range list[known:] {
				if s.Client+2 != to {
					t.Errorf("%+v is seen by an event at %d", s, to)
				}
			}
			if len(list) > known && known > 0 && list[known].Client != list[known-1].Client {
				changes++
			}
			known = len(list)
		}
	}
	for number := range 3 {
		i := slices.IndexFunc(r.x.Trace(), func(s api.Seen) bool { return s == api.Seen{Kind: api.TrDone, Client: number, Op: 4} })
		if i < 0 {
			t.Errorf("client %d has not ended by %+v", number, r.x.Trace())
		}
	}
	if changes < 5 {
		t.Errorf("they see one behind the other: %+v", r.x.Trace())
	}
}

// TestOwnMemory: what is handed in is neither changed nor kept, and what is told is nobody else's.
func TestOwnMemory(t *testing.T) {
	c := settings(3, 1, []api.Op{send(0, "a"), commits}, []api.Op{poll(2)})
	x, _ := New(c)
	r := &run{t: t, c: settings(3, 1, []api.Op{send(0, "a"), commits}, []api.Op{poll(2)}), x: x, book: newBook(c)}
	clear(c.Clients[0].Ops)
	c.Clients[1] = api.Program{Group: -1, Ops: many(100)}
	r.calm(0) // nodes are started by the settings
	r.finish()
	for id := range 3 {
		if !x.Up(id) {
			t.Fatalf("the node %d isn't up", id)
		}
	}
	clear(x.Trace())
	for id := range 3 {
		for _, a := range x.Applied(id) {
			clear(a.Data)
		}
		log, _, _ := x.Part(id, 0)
		for _, b := range log {
			for _, v := range b.Values {
				clear(v)
			}
		}
		clear(log)
	}
	r.laws()
	if len(r.x.Trace()) != 3+2 && len(r.x.Trace()) != 3+3 {
		t.Errorf("seen: %+v", r.x.Trace())
	}
	r.wantValues(0, "a")
}
