package node

import (
	"fmt"
	"slices"
	"testing"

	"penstock/api"
)

// write lets something be laid in the partition 0, as nobody's.
func (x *crowd) write(leader int) int {
	x.t.Helper()
	return x.ask(leader, api.Msg{Kind: api.MProduce, Batch: records(fmt.Sprint(x.asked))})
}

// busyRounds lets rounds go by in each of which something is laid, by a leader that is the same all the time.
func (x *crowd) busyRounds(leader, count int) {
	x.t.Helper()
	for range count {
		x.write(leader)
		x.calmRound()
		// Amid the round, too: whoever asks in it has less than there is.
		for _, m := range x.flight {
			if m.Kind == api.MFetch && m.To == leader {
				x.write(leader)
				break
			}
		}
	}
}

// TestBusy: where something is laid all the time those in sync stay so, since they keep up.
func TestBusy(t *testing.T) {
	for nodes := 2; nodes <= 5; nodes++ {
		x := calm(t, one(nodes, 1))
		leader := x.part(0).Leader
		before := x.part(0)
		x.busyRounds(leader, 100)
		if p := x.part(0); p.Version != before.Version || len(p.Isr) != nodes {
			t.Errorf("in sync: %+v, behind %+v", p, before)
		}
		x.replies = nil
		x.wantLaid(0)
	}
}

// TestBusyWithoutOne: who doesn't ask any more isn't in sync any more, though something is laid all the time; when it asks again it comes to be, and what is laid is answered all the time but for a while.
func TestBusyWithoutOne(t *testing.T) {
	x := calm(t, one(3, 1))
	leader := x.part(0).Leader
	away := (leader + 1) % 3
	x.cut[pair(leader, away)] = true
	x.busyRounds(leader, 10+slow)
	if p := x.part(0); slices.Contains(p.Isr, away) {
		t.Fatalf("in sync: %+v", p)
	}
	clear(x.cut)
	for range 20 {
		corr := x.write(leader)
		x.busyRounds(leader, 4)
		if m, ok := x.reply(corr); !ok || m.E != api.OK {
			t.Errorf("not answered: %+v, %v", m, ok)
		}
	}
	if p := x.part(0); len(p.Isr) != 3 {
		t.Errorf("in sync: %+v", p)
	}
	x.wantLaid(0)
}

// TestBusyAlone: who leads alone, in sync with nobody, commits at once, so that nobody who asks ever has all; they come to be in sync all the same.
func TestBusyAlone(t *testing.T) {
	x := lonely(t)
	leader := x.part(0).Leader
	clear(x.cut)
	x.busyRounds(leader, 60)
	if p := x.part(0); len(p.Isr) != 3 || p.Leader != leader {
		t.Errorf("in sync: %+v", p)
	}
	x.wantLaid(0)
}

// silence loses what nodes, told by their numbers, ask of the partition 0.
func (x *crowd) silence(list ...int) {
	x.flight = slices.DeleteFunc(x.flight, func(m api.Msg) bool {
		return m.Kind == api.MFetch && m.Fetch.Part == 0 && slices.Contains(list, m.From)
	})
}

// lonely is a crowd of three in which the one that leads the partition 0 is alone in sync there, since what the others ask of it there is lost.
func lonely(t *testing.T) *crowd {
	t.Helper()
	x := calm(t, one(3, 1))
	leader := x.part(0).Leader
	for range 40 {
		x.silence(0, 1, 2)
		x.calmRound()
	}
	x.silence(0, 1, 2)
	if p := x.part(0); p.Leader != leader || len(p.Isr) != 1 {
		t.Fatalf("in sync: %+v", p)
	}
	return x
}

// TestNearAndGone: what is committed waits for one that is about to be in sync; not for long, if that one asks no more.
func TestNearAndGone(t *testing.T) {
	waited := 0
	for busy := range 12 {
		x := lonely(t)
		leader := x.part(0).Leader
		near, other := (leader+1)%3, (leader+2)%3
		for range busy {
			x.busyRounds(leader, 1)
			x.silence(other)
		}
		x.silence(near)
		corr := x.write(leader)
		if _, ok := x.reply(corr); !ok && len(x.part(0).Isr) == 1 {
			waited++
		}
		for range 40 {
			x.calmRound()
			x.silence(near, other)
		}
		if m, ok := x.reply(corr); !ok || m.E != api.OK {
			t.Errorf("MProduce: %+v, %v", m, ok)
		}
		if p := x.part(0); len(p.Isr) != 1 {
			t.Errorf("in sync: %+v", p)
		}
	}
	if waited < 2 {
		t.Errorf("it has waited %d times", waited)
	}
}

// TestPaceOfAnEpoch: who diverges has asked from nowhere, and in a new epoch nobody has asked.
func TestPaceOfAnEpoch(t *testing.T) {
	x := calm(t, one(3, 1))
	n := x.nodes[x.part(0).Leader]
	x.wantReply(x.write(n.id), 40)
	epoch, _ := n.parts[0].log.Role()
	before := n.parts[0].pace
	q := api.FetchReq{Epoch: epoch, Node: (n.id + 1) % 3, Offset: 1 << 20, LastEpoch: epoch}
	out := n.Handle(api.Msg{Kind: api.MFetch, From: q.Node, To: n.id, Fetch: q})
	if len(out) != 1 || !out[0].Fetched.Diverges || n.parts[0].pace != before {
		t.Errorf("it answers %+v: %+v, behind %+v", out, n.parts[0].pace, before)
	}
	n.lead(0, api.Part{Leader: n.id, Epoch: epoch + 1, Isr: []int{n.id}})
	if n.parts[0].pace != newPace(1) {
		t.Errorf("in a new epoch: %+v", n.parts[0].pace)
	}
}

// TestPace: who keeps up has asked of late, and from where the end was a while ago; and who has all that may be committed.
func TestPace(t *testing.T) {
	c := newPace(5)
	if c.keeps(1) {
		t.Error("it hasn't asked")
	}
	c.hear(1, 4)
	if c.keeps(1) || c.has(1, 0) {
		t.Error("it has less than was there at the beginning")
	}
	c.hear(1, 5)
	if !c.keeps(1) || !c.has(1, 0) || !c.has(1, 5) || c.has(1, 6) {
		t.Error("it has what was there at the beginning")
	}
	c.hear(1, 3) // late
	for i := range slow - 1 {
		c.tick(10 + i)
		if !c.keeps(1) {
			t.Errorf("behind %d ticks", i+1)
		}
	}
	c.tick(20)
	if c.keeps(1) {
		t.Error("it hasn't asked of late")
	}
	c.hear(1, 9)
	if c.keeps(1) {
		t.Error("it hasn't what was there a while ago")
	}
	c.hear(1, 10)
	if !c.keeps(1) || c.keeps(0) {
		t.Error("it has what was there a while ago")
	}
	first := newPace(0)
	first.hear(2, 0)
	if !first.keeps(2) || first.keeps(1) {
		t.Error("an empty log")
	}
}
