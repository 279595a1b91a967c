package client

import (
	"slices"
	"testing"

	"penstock/api"
	"penstock/node"
	"penstock/wire"
)

// The chapter's examples, and the document's.

func TestChapterExamples(t *testing.T) {
	x := writer(t)
	x.ticks(1)
	x.sees(seen(api.TrDone, 0))
	x.stands(0, 0, true)
	x.ticks(20)

	x = writer(t, commits)
	x.ticks(1)
	x.sees(seen(api.TrCommit, 0))
	x.ticks(1)
	x.sees(seen(api.TrCommit, 0), seen(api.TrDone, 1))
	x.stands(1, 0, true)
	x.ticks(20)

	x = writer(t, send(0, "a"))
	x.asks(initiate) // with its number as Tx
}

// single is a cluster of one node, and one client, whose program that is.
func single(t *testing.T, parts int, ops ...api.Op) *world {
	t.Helper()
	return newWorld(t, api.Config{Nodes: 1, Parts: parts, Copies: 1, Clients: []api.Program{{Ops: ops}}})
}

// wantSeen: all has ended, and this is what the client has seen, in all.
func (x *world) wantSeen(want ...api.Seen) {
	x.t.Helper()
	x.finish()
	if got := x.clients[0].Trace(); !slices.Equal(got, want) {
		x.t.Errorf("it has seen %+v\nwant %+v", got, want)
	}
	x.rest()
	x.laws()
}

// wantValues: these are committed, in this order.
func (x *world) wantValues(k int, want ...string) {
	x.t.Helper()
	var got []string
	for _, r := range committed(x.log(k)) {
		got = append(got, r.value)
	}
	if !slices.Equal(got, want) {
		x.t.Errorf("in the partition %d are committed %q, want %q", k, got, want)
	}
}

func TestExampleOfACommit(t *testing.T) {
	x := single(t, 1, send(0, "a"), commits)
	x.wantSeen(sent(0, 0, 0, "a"), seen(api.TrCommit, 1), seen(api.TrDone, 2))
	x.wantValues(0, "a")
	if log := x.log(0); len(log) != 2 || !log[1].Control || !log[1].Commit {
		t.Errorf("the log is %+v", log)
	}
}

func TestExampleOfAnAbort(t *testing.T) {
	x := single(t, 1, send(0, "a"), aborts)
	x.wantSeen(sent(0, 0, 0, "a"), seen(api.TrAbort, 1), seen(api.TrDone, 2))
	x.wantValues(0)
}

func TestExampleOfNoTransaction(t *testing.T) {
	x := single(t, 1, commits)
	x.wantSeen(seen(api.TrCommit, 0), seen(api.TrDone, 1))
}

func TestExampleOfReading(t *testing.T) {
	x := single(t, 1, send(0, "a"), send(0, "b"), commits, poll(5))
	x.wantSeen(sent(0, 0, 0, "a"), sent(1, 0, 1, "b"), seen(api.TrCommit, 2), seek(3, 0, 0), read(3, 0, 0, "a"), read(3, 0, 1, "b"), seen(api.TrDone, 4))

	x = single(t, 1, send(0, "a"), aborts, poll(5))
	x.wantSeen(sent(0, 0, 0, "a"), seen(api.TrAbort, 1), seek(2, 0, 0), seen(api.TrDone, 3))

	// The next one begins behind what was passed over, too.
	x = single(t, 2, send(0, "a"), commits, poll(5), send(1, "b"), commits, poll(5))
	x.wantSeen(sent(0, 0, 0, "a"), seen(api.TrCommit, 1), seek(2, 0, 0), read(2, 0, 0, "a"), seek(2, 1, 0),
		sent(3, 1, 0, "b"), seen(api.TrCommit, 4), seek(5, 0, 2), seek(5, 1, 0), read(5, 1, 0, "b"), seen(api.TrDone, 6))
}

// until lets calm rounds go by till the first client stands there; behind each of them that is done.
func (x *world) until(place int, each func()) {
	x.t.Helper()
	for range x.bound() {
		if at, _, _ := x.clients[0].State(); at == place {
			return
		}
		x.calmRound()
		each()
	}
	x.t.Fatalf("it never stands at %d", place)
}

func nothing() {}

func TestExampleOfABreak(t *testing.T) {
	for broken := range 3 {
		for bytes := range 60 {
			x := newWorld(t, api.Config{Nodes: 3, Parts: 1, Copies: 3, Clients: []api.Program{{Ops: []api.Op{send(0, "a"), commits}}}})
			x.until(1, nothing)
			x.do(api.Event{Kind: api.ECrash, A: broken, B: 3 * bytes})
			x.finish(broken)
			x.wantSeen(sent(0, 0, 0, "a"), seen(api.TrCommit, 1), seen(api.TrDone, 2))
			x.wantValues(0, "a")
		}
	}
}

func TestExampleOfBeginningAnew(t *testing.T) {
	x := single(t, 1, send(0, "a"), commits)
	x.until(1, nothing)
	x.way.Drop(0) // the MEnd
	x.do(api.Event{Kind: api.EAgain})
	x.wantSeen(sent(0, 0, 0, "a"), failed(1, api.ErrTxn), sent(0, 0, 2, "a"), seen(api.TrCommit, 1), seen(api.TrDone, 2))
	x.wantValues(0, "a")
	x.clients[0].Again()
	if place, inc, ended := x.clients[0].State(); place != 2 || inc != 2 || !ended {
		t.Errorf("State() = %d, %d, %v", place, inc, ended)
	}
}

// TestExampleOfALostAnswer: the answer to MEnd is lost, or all of the first ones are.
func TestExampleOfALostAnswer(t *testing.T) {
	for lost := range 5 {
		x := single(t, 1, send(0, "a"), commits)
		x.until(1, nothing)
		for count := 0; count < lost; {
			x.calmRound()
			for i := range x.way.Count() {
				p, _ := x.way.Peek(i)
				if m, e := wire.Decode(p.Body); e == api.OK && m.Kind == api.MReply && m.E == api.OK {
					x.way.Drop(i)
					count++
					break
				}
			}
		}
		x.wantSeen(sent(0, 0, 0, "a"), seen(api.TrCommit, 1), seen(api.TrDone, 2))
		x.wantValues(0, "a")
	}
}

func TestExampleOfCopying(t *testing.T) {
	x := single(t, 2, send(0, "a"), commits, copyTo(0, 1, 5), copyTo(0, 1, 5))
	x.wantSeen(sent(0, 0, 0, "a"), seen(api.TrCommit, 1), seek(2, 0, 0), read(2, 0, 0, "a"), seen(api.TrCommit, 2), seek(3, 0, 2), seen(api.TrDone, 4))
	x.wantValues(0, "a")
	x.wantValues(1, "a")
}

// TestExampleOfOneThatIsDown: a node of three, or two of five, that is down for ever.
func TestExampleOfOneThatIsDown(t *testing.T) {
	for _, nodes := range []int{3, 5} {
		for first := range nodes {
			down := []int{first, (first + 1) % nodes}[:nodes/2]
			ops := []api.Op{send(0, "a"), send(1, "b"), commits, copyTo(0, 2, 3), poll(16), copyTo(1, 2, 3), send(2, "c"), aborts}
			x := newWorld(t, api.Config{Nodes: nodes, Parts: 3, Copies: nodes, Clients: []api.Program{{Ops: ops}, {Group: 1, Ops: []api.Op{poll(1), poll(16)}}}})
			for _, id := range down {
				x.do(api.Event{Kind: api.ECrash, A: id, B: -1})
			}
			x.finish(down...)
			x.rest(down...)
			x.laws()
		}
	}
}

// TestBesideOneThatLeadsNoMore: a coordinator that is cut off, and doesn't know that it leads no more, is asked how far the group has come. What was copied since isn't copied again.
func TestBesideOneThatLeadsNoMore(t *testing.T) {
	copies := []api.Op{copyTo(0, 1, 1), copyTo(0, 1, 1), copyTo(0, 1, 1)}
	writes := []api.Op{send(0, "a"), send(0, "b"), send(0, "c"), send(0, "d"), commits}
	x := newWorld(t, api.Config{Nodes: 3, Parts: 2, Copies: 3, Clients: []api.Program{{Ops: copies}, {Group: 1, Ops: writes}}})
	x.asleep[3] = true
	for _, _, ended := x.clients[1].State(); !ended; _, _, ended = x.clients[1].State() {
		x.calmRound()
	}
	clear(x.asleep)
	x.until(1, nothing)
	old := slices.IndexFunc(x.nodes, func(n *node.Node) bool { _, _, leads := n.Part(3); return leads })
	for id := range x.nodes {
		x.way.Cut(old, id)
	}
	// By its clock nothing has happened, and the client can't reach it.
	x.asleep[old] = true
	x.until(2, func() { x.lose(3, old) })
	x.do(api.Event{Kind: api.EAgain})
	if x.clients[0].leaders[3] != old {
		t.Fatalf("it isn't the one that leads no more, %d, that is asked first", old)
	}
	for range 60 {
		x.calmRound()
	}
	clear(x.asleep)
	x.calm()
	x.finish()
	x.rest()
	x.laws()
	x.wantCopied(0, 1)
	x.wantValues(1, "a", "b", "c")
}
