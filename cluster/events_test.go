package cluster

import (
	"slices"
	"testing"

	"penstock/api"
)

// flight are the packets in flight.
func flight(x *Cluster) []api.Packet {
	var list []api.Packet
	for i := range x.Flight() {
		p, _ := x.way.Peek(i)
		list = append(list, p)
	}
	return list
}

// asking is a cluster of so many nodes at its beginning, of which each client has sent one request.
func asking(t *testing.T, nodes, clients int) *run {
	t.Helper()
	c := settings(nodes, 2)
	for range clients {
		c.Clients = append(c.Clients, api.Program{Ops: []api.Op{send(0, "a"), commits}})
	}
	r := newRun(t, c)
	for i := range clients {
		r.x.Do(api.Event{Kind: api.ETick, A: nodes + i})
	}
	if got := r.senders(); len(got) != clients {
		t.Fatalf("in flight: %v", got)
	}
	return r
}

// senders are those that have sent what is in flight.
func (r *run) senders() []int {
	var list []int
	for _, p := range flight(r.x) {
		list = append(list, p.From)
	}
	return list
}

// wantSenders: this is in flight, by who has sent it.
func (r *run) wantSenders(want ...int) {
	r.t.Helper()
	if got := r.senders(); !slices.Equal(got, want) {
		r.t.Errorf("in flight is what was sent by %v, want %v", got, want)
	}
}

// TestTicks: nodes, and then clients, are counted round.
func TestTicks(t *testing.T) {
	for a, sender := range map[int]int{2: 2, 3: 3, 4: 4, 7: 2, -1: 4, -2: 3, -3: 2, -8: 2, 1<<62 + 1: (1<<62 + 1) % 5} {
		r := newRun(t, settings(2, 1, []api.Op{send(0, "a")}, []api.Op{send(0, "b")}, []api.Op{send(0, "c")}))
		r.x.Do(api.Event{Kind: api.ETick, A: a})
		if sender < 2 {
			r.wantSenders()
		} else {
			r.wantSenders(sender)
		}
	}
	// A node alone leads by its own ticks, be they counted round or not; by others' it doesn't.
	for a, leads := range map[int]bool{0: true, 2: true, -2: true, 1: false, -1: false} {
		r := newRun(t, settings(1, 1, nil))
		for range 20 {
			r.x.Do(api.Event{Kind: api.ETick, A: a})
		}
		if _, _, l := r.x.Part(0, 0); l != leads {
			t.Errorf("by ticks of %d it leads: %v", a, l)
		}
	}
}

// TestPackets: EDeliver, EDrop and ECopy name a packet, counted round.
func TestPackets(t *testing.T) {
	for a, i := range map[int]int{0: 0, 1: 1, 2: 2, 3: 0, -1: 2, -3: 0, 302: 2} {
		all := []int{1, 2, 3}
		rest := slices.Delete(slices.Clone(all), i, i+1)
		r := asking(t, 1, 3)
		r.x.Do(api.Event{Kind: api.EDeliver, A: a})
		r.wantSenders(rest...) // no node is active yet
		r = asking(t, 1, 3)
		r.x.Do(api.Event{Kind: api.EDrop, A: a})
		r.wantSenders(rest...)
		r = asking(t, 1, 3)
		r.x.Do(api.Event{Kind: api.ECopy, A: a})
		r.wantSenders(1, 2, 3, all[i])
		if list := flight(r.x); string(list[i].Body) != string(list[3].Body) {
			t.Errorf("copied is %v as %v", list[i], list[3])
		}
	}
	r := newRun(t, settings(1, 1))
	for _, kind := range []int{api.EDeliver, api.EDrop, api.ECopy} {
		r.x.Do(api.Event{Kind: kind, A: 5})
		r.wantSenders()
	}
}

// TestFull: no more than 256 packets are in flight; what is sent then is lost.
func TestFull(t *testing.T) {
	r := asking(t, 2, 2)
	for range 300 {
		r.x.Do(api.Event{Kind: api.ECopy, A: 1})
	}
	if r.x.Flight() != api.MaxMsgs {
		t.Errorf("in flight: %d", r.x.Flight())
	}
	for range 10 {
		r.x.Do(api.Event{Kind: api.ETick, A: 2})
	}
	if n := len(slices.DeleteFunc(r.senders(), func(from int) bool { return from != 2 })); n != 1 {
		t.Errorf("of the client 0 there are %d in flight", n)
	}
	r.calm(0)
	r.finish()
	r.laws()
}

// TestAnswer: what a node is delivered it answers, and a client takes that.
func TestAnswer(t *testing.T) {
	r := newRun(t, settings(1, 1, []api.Op{send(0, "a")}))
	for range 20 {
		r.x.Do(api.Event{Kind: api.ETick, A: 0})
	}
	r.x.Do(api.Event{Kind: api.ETick, A: 1})
	for _, sender := range []int{1, 0, 1, 0, 1, 0} {
		r.wantSenders(sender)
		r.x.Do(api.Event{Kind: api.EDeliver})
	}
	r.wantSenders()
	if list := r.x.Trace(); !slices.Equal(list, []api.Seen{sent(0, 0, 0, "a")}) {
		t.Errorf("seen: %+v", list)
	}
}

// TestDeliveredToNobody: what is delivered to a node that is down is lost.
func TestDeliveredToNobody(t *testing.T) {
	r := newRun(t, settings(1, 1, []api.Op{send(0, "a")}))
	for range 20 {
		r.x.Do(api.Event{Kind: api.ETick, A: 0})
	}
	r.x.Do(api.Event{Kind: api.ETick, A: 1})
	r.breaks(0)
	r.x.Do(api.Event{Kind: api.EDeliver})
	r.wantSenders()
	for range 20 {
		r.x.Do(api.Event{Kind: api.ETick, A: 0})
	}
	r.wantSenders()
	if r.x.Up(0) {
		t.Error("a clock has it rise")
	}
}

// exchange lets two nodes send each other what they send for some time, and tells how much of that came to the other one.
func exchange(x *Cluster) int {
	count := 0
	for i := range 60 {
		for id := range 2 {
			x.Do(api.Event{Kind: api.ETick, A: id, B: 3*i + id})
		}
		for range x.Flight() {
			before := x.Flight()
			x.Do(api.Event{})
			count += x.Flight() - before + 1 // what was sent for it
		}
	}
	return count
}

// TestCutAndHeal: nothing goes between two nodes, counted round, either way, till all goes again; between a node and itself there is nothing to cut, and nor is there between nodes and clients.
func TestCutAndHeal(t *testing.T) {
	for _, cut := range [][2]int{{0, 1}, {1, 0}, {2, -1}, {-2, 5}, {-1, 0}} {
		r := newRun(t, settings(2, 1))
		r.x.Do(api.Event{Kind: api.ECut, A: cut[0], B: cut[1]})
		if n := exchange(r.x); n != 0 || len(r.x.Applied(0)) > 0 {
			t.Errorf("cut by %v, but %d came", cut, n)
		}
		r.x.Do(api.Event{Kind: api.EHeal, A: 7})
		if n := exchange(r.x); n == 0 || len(r.x.Applied(0)) == 0 {
			t.Errorf("cut by %v, and healed, but %d came", cut, n)
		}
	}
	for _, cut := range [][2]int{{0, 0}, {1, 1}, {0, 2}, {-1, 1}} {
		r := newRun(t, settings(2, 1))
		r.x.Do(api.Event{Kind: api.ECut, A: cut[0], B: cut[1]})
		if exchange(r.x) == 0 {
			t.Errorf("%v is cut", cut)
		}
	}
	r := newRun(t, settings(1, 1, []api.Op{send(0, "a"), commits}))
	for a := range 4 {
		for b := range 4 {
			r.x.Do(api.Event{Kind: api.ECut, A: a, B: b})
		}
	}
	r.finish()
}

// TestCrash: at once, or behind so many bytes more; nodes are counted round.
func TestCrash(t *testing.T) {
	for a, id := range map[int]int{0: 0, 1: 1, 2: 2, 3: 0, -1: 2, -6: 0} {
		for _, b := range []int{-1, -128} {
			r := newRun(t, settings(3, 1))
			r.x.Do(api.Event{Kind: api.ECrash, A: a, B: b})
			for i := range 3 {
				if r.x.Up(i) != (i != id) {
					t.Errorf("ECrash of %d: the node %d is up: %v", a, i, r.x.Up(i))
				}
			}
		}
	}
	// The more bytes, the later; of none it breaks when it writes next.
	last := 0
	for bytes := range 400 {
		r := newRun(t, settings(1, 1))
		r.x.Do(api.Event{Kind: api.ECrash, A: -1, B: bytes})
		if !r.x.Up(0) {
			t.Fatal("it is down, but it has written nothing")
		}
		ticks := 0
		for ; r.x.Up(0) && ticks < 20; ticks++ {
			r.x.Do(api.Event{Kind: api.ETick})
		}
		if ticks < last || bytes == 0 && ticks == 20 {
			t.Errorf("behind %d bytes it breaks by %d ticks, and behind fewer by %d", bytes, ticks, last)
		}
		last = ticks
		if !r.x.Up(0) && (r.x.Applied(0) != nil || r.x.Flight() > 0) {
			t.Error("who is broken does something")
		}
	}
	if last < 20 {
		t.Errorf("the most bytes are written by %d ticks", last)
	}
}

// TestRise: a node that is up goes down for it; it knows what its disk has, and doesn't break any more.
func TestRise(t *testing.T) {
	for _, down := range []bool{true, false} {
		for _, left := range []int{0, 5, -1, 1 << 40} {
			r := newRun(t, settings(1, 1, []api.Op{send(0, "a"), commits, send(0, "b"), commits}))
			r.until(api.TrCommit, 1)
			r.x.Do(api.Event{Kind: api.ECrash, B: 3})
			if down {
				r.breaks(0)
			}
			r.x.Do(api.Event{Kind: api.ERise, A: 3, C: left})
			log, high, leads := r.x.Part(0, 0)
			if !r.x.Up(0) || len(r.x.Applied(0)) > 0 || len(log) != 2 || high != 0 || leads {
				t.Errorf("it has risen: %v, %+v, %d, %v", r.x.Up(0), log, high, leads)
			}
			r.down = nil
			for range 60 {
				for e := range r.round {
					if e.Kind == api.ERise {
						t.Fatal("it has broken again")
					}
					r.x.Do(e)
				}
			}
			r.finish()
			r.laws()
			r.wantValues(0, "a", "b")
		}
	}
	// Nodes are counted round.
	r := newRun(t, settings(3, 1))
	for id := range 3 {
		r.x.Do(api.Event{Kind: api.ECrash, A: id, B: -1})
	}
	for i, a := range []int{-1, 4, 0} {
		r.x.Do(api.Event{Kind: api.ERise, A: a})
		if want := [][]bool{{false, false, true}, {false, true, true}, {true, true, true}}[i]; r.x.Up(0) != want[0] || r.x.Up(1) != want[1] || r.x.Up(2) != want[2] {
			t.Errorf("ERise of %d: up are %v, %v, %v", a, r.x.Up(0), r.x.Up(1), r.x.Up(2))
		}
	}
}

// TestAgain: a client, counted round, begins anew; where there is none nobody does.
func TestAgain(t *testing.T) {
	for a, number := range map[int]int{0: 0, 1: 1, 2: 2, 3: 0, -1: 2, -5: 1} {
		r := asking(t, 2, 3)
		r.x.Do(api.Event{Kind: api.EAgain, A: a})
		for i, u := range r.x.users {
			if _, inc, _ := u.client.State(); (inc == 1) != (i == number) {
				t.Errorf("EAgain of %d: the client %d has begun anew %d times", a, i, inc)
			}
		}
	}
	r := newRun(t, settings(2, 1))
	r.x.Do(api.Event{Kind: api.EAgain})
	r.calmRounds(20)
}

// TestMove: a data partition moves to as many nodes as each stands on, from one of them on; all of that is counted round.
func TestMove(t *testing.T) {
	for _, m := range []struct{ a, b, part, from int }{
		{0, 1, 0, 1}, {1, 0, 1, 0}, {1, 2, 1, 2}, {2, 4, 0, 4}, {3, -1, 1, 4}, {-1, 5, 1, 0}, {-2, 1<<63 - 1, 0, 2}, {0, -1 << 63, 0, 2},
	} {
		r := newRun(t, settings(5, 2, []api.Op{send(m.part, "a"), send(1-m.part, "b"), commits}))
		r.c.Copies = 2
		r.x, _ = New(r.c)
		r.finish()
		r.calmRounds(30)
		var before []api.Part
		for k := range 4 {
			before = append(before, r.part(k))
		}
		r.do(api.Event{Kind: api.EMove, A: m.a, B: m.b, C: 9})
		r.calmRounds(60)
		r.wantStands(m.part, m.from)
		for k := range 4 {
			if p := r.part(k); k != m.part && !slices.Equal(p.Replicas, before[k].Replicas) {
				t.Errorf("the partition %d stands on %v, and before on %v", k, p.Replicas, before[k].Replicas)
			}
		}
		r.wantLed()
		r.laws()
		r.wantValues(m.part, "a")
	}
}

// TestOtherEvents: others are nothing.
func TestOtherEvents(t *testing.T) {
	r := asking(t, 2, 1)
	for _, kind := range []int{-1, 10, 11, 1 << 40, -1 << 63} {
		r.x.Do(api.Event{Kind: kind})
		r.wantSenders(2)
	}
	if !r.x.Up(0) || !r.x.Up(1) || len(r.x.Trace()) > 0 {
		t.Error("something has happened")
	}
}
