package node

import (
	"math"
	"slices"
	"testing"

	"penstock/api"
)

// groupAt is a crowd in which the member 1 is alone in the group 0, and has come to an offset; it answers who coordinates.
func groupAt(t *testing.T, nodes, offset int) (*crowd, int) {
	t.Helper()
	x := calm(t, one(nodes, 1))
	leader := x.part(2).Leader
	x.wantReply(x.ask(leader, api.Msg{Kind: api.MJoin, Member: 1}), 40)
	x.comesTo(leader, offset)
	return x, leader
}

// comesTo lets the group come to an offset.
func (x *crowd) comesTo(leader, offset int) {
	x.t.Helper()
	m := x.wantReply(x.ask(leader, api.Msg{Kind: api.MCommit, Member: 1, Gen: 1, Offset: offset}), 40)
	if m.E != api.OK {
		x.t.Fatalf("MCommit: %+v", m)
	}
}

// wantOffset: a leader answers within so many rounds how far the group has come.
func (x *crowd) wantOffset(leader, offset, rounds int) {
	x.t.Helper()
	if m := x.wantReply(x.ask(leader, api.Msg{Kind: api.MOffset}), rounds); m.E != api.OK || m.Offset != offset {
		x.t.Errorf("MOffset: %+v, want %d", m, offset)
	}
}

// TestOffsetIsTold: of several nodes the leader has to know that it leads still, which doesn't take long; a node alone knows.
func TestOffsetIsTold(t *testing.T) {
	for nodes := 1; nodes <= 5; nodes++ {
		x, leader := groupAt(t, nodes, 7)
		before, _, _ := x.nodes[leader].Part(2)
		for range 10 {
			x.wantOffset(leader, 7, 6*min(nodes-1, 1))
		}
		// Twice the same is answered once.
		x.replies = nil
		m := api.Msg{Kind: api.MOffset, From: nodes, To: leader, Corr: 1 << 20}
		for range 3 {
			x.did(leader, x.nodes[leader].Handle(m))
		}
		for range 10 {
			x.calmRound()
		}
		if len(x.replies) != 1 && nodes > 1 {
			t.Errorf("answered: %+v", x.replies)
		}
		if after, _, _ := x.nodes[leader].Part(2); len(after) != len(before) {
			t.Errorf("laid for that: %+v", after[len(before):])
		}
	}
}

// TestOffsetOfOneThatLeadsNoMore: who is cut off, and doesn't know that another one leads, doesn't tell what was so long ago.
func TestOffsetOfOneThatLeadsNoMore(t *testing.T) {
	x, old := groupAt(t, 3, 7)
	x.wantOffset(old, 7, 40)
	x.cutOff(old)
	// Till another one leads it is so still, but it can't know.
	early := x.ask(old, api.Msg{Kind: api.MOffset})
	for range 40 {
		x.calmRound()
	}
	next := partOf(t, x.nodes[(old+1)%3], 2).Leader
	if next == old {
		t.Fatal("no other one leads")
	}
	x.comesTo(next, 9)
	late := x.ask(old, api.Msg{Kind: api.MOffset})
	if _, _, leads := x.nodes[old].Part(2); !leads {
		t.Fatal("it knows")
	}
	for range 20 {
		x.calmRound()
	}
	clear(x.cut)
	x.settle(100)
	for _, corr := range []int{early, late} {
		if m, ok := x.reply(corr); ok {
			t.Errorf("told: %+v", m)
		}
	}
	x.wantOffset(x.part(2).Leader, 9, 40)
}

// TestOffsetWithoutOne: one in sync that is down is in sync no more before long; then it is told.
func TestOffsetWithoutOne(t *testing.T) {
	x, leader := groupAt(t, 3, 7)
	x.nodes[(leader+1)%3] = nil
	x.wantOffset(leader, 7, 40)
}

// TestOffsetOfOneInSyncByNow: who was asked for may be in sync by now, and lead.
func TestOffsetOfOneInSyncByNow(t *testing.T) {
	x, leader := groupAt(t, 3, 7)
	n := x.nodes[leader]
	p := n.parts[2]
	count := n.surelyLed(2)
	for id := range x.nodes {
		if id != leader {
			p.tenure.heard[id] = count + 5
		}
	}
	if got := n.surelyLed(2); got != count+5 {
		t.Errorf("led up to %d, want %d", got, count+5)
	}
	other := (leader + 1) % 3
	p.tenure.heard[other] = count
	n.image.Apply(api.Cmd{Kind: api.CIsr, Node: leader, Part: 2, Epoch: x.part(2).Epoch, Version: x.part(2).Version, List: pairOf(leader, (leader+2)%3)})
	if got := n.surelyLed(2); got != count+5 {
		t.Errorf("led up to %d, want %d", got, count+5)
	}
	p.tenure.hope([]int{other, leader})
	if got := n.surelyLed(2); got != count {
		t.Errorf("led up to %d, want %d", got, count)
	}
	n.assign()
	if got := n.surelyLed(2); got != count+5 {
		t.Errorf("behind a new list: led up to %d, want %d", got, count+5)
	}
}

// TestAskedForAreHoped: who is asked for counts from then on, till there is a new list.
func TestAskedForAreHoped(t *testing.T) {
	x, leader := groupAt(t, 3, 7)
	other := (leader + 1) % 3
	p := x.nodes[leader].parts[2]
	for range 20 {
		// The third one is silent, so that the two others are asked for.
		x.tick(leader, 0)
		x.tick(other, 0)
		list := x.flight
		x.flight = nil
		for _, m := range list {
			if m.Kind == api.MFetch && m.From == other {
				x.deliver(m)
			}
		}
	}
	var want [api.MaxNodes]bool
	want[leader], want[other] = true, true
	if p.tenure.hoped != want {
		t.Errorf("hoped for: %v", p.tenure.hoped)
	}
	for range 60 {
		x.calmRound()
	}
	if p.tenure.hoped != [api.MaxNodes]bool{} {
		t.Errorf("hoped for, behind a new list: %v", p.tenure.hoped)
	}
}

func pairOf(a, b int) []int {
	list := []int{a, b}
	slices.Sort(list)
	return list
}

// TestCounts: a count counts from when the leader has told it, and in its epoch alone.
func TestCounts(t *testing.T) {
	x, leader := groupAt(t, 3, 7)
	p := x.nodes[leader].parts[2]
	p.tenure = tenure{count: 5}
	for _, c := range [][2]int{{-3, 0}, {2, 2}, {1, 2}, {6, 5}, {math.MaxInt, 5}, {math.MinInt, 5}, {0, 5}} {
		p.tenure.hear(1, c[0])
		if p.tenure.heard != [api.MaxNodes]int{1: c[1]} {
			t.Errorf("behind %d: %v", c[0], p.tenure.heard)
		}
	}
	p.tenure = tenure{count: 5}
	if p.learnsCount(api.Msg{Corr: 8, Fetched: api.FetchReply{Part: 2, Epoch: x.part(2).Epoch}}) || p.tenure.count != 5 {
		t.Error("a leader is told a count")
	}
	f := x.nodes[(leader+1)%3].parts[2]
	f.tenure = tenure{}
	for _, c := range []struct {
		corr, older int
		want        bool
		count       int
	}{{3, 0, true, 3}, {3, 0, false, 3}, {2, 0, false, 3}, {-1, 0, false, 3}, {9, 1, false, 3}, {9, -1, false, 3}, {4, 0, true, 4}} {
		m := api.Msg{Corr: c.corr, Fetched: api.FetchReply{Part: 2, Epoch: x.part(2).Epoch - c.older}}
		if got := f.learnsCount(m); got != c.want || f.tenure.count != c.count {
			t.Errorf("of %d: %v, %d, want %v, %d", c.corr, got, f.tenure.count, c.want, c.count)
		}
	}
	// In another epoch it counts anew.
	p.tenure, f.tenure = tenure{count: 5, heard: [5]int{1, 2, 3}}, tenure{count: 5}
	x.nodes[leader].lead(2, api.Part{Epoch: 1 << 20})
	x.nodes[(leader+1)%3].follow(2, 1<<20)
	if p.tenure != (tenure{}) || f.tenure != (tenure{}) {
		t.Errorf("behind a new epoch: %+v, %+v", p.tenure, f.tenure)
	}
}
