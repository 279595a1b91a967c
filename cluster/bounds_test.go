package cluster

import (
	"math/rand"
	"slices"
	"testing"

	"penstock/api"
	"penstock/image"
)

// part is what the metadata say of a partition, by all entries of the quorum's log that were seen.
func (r *run) part(k int) api.Part {
	r.t.Helper()
	m, e := image.New(r.c.Nodes, r.c.Parts+2, r.c.Copies)
	if e != api.OK {
		r.t.Fatal(e)
	}
	for i := 1; i <= r.book.last; i++ {
		text, ok := r.book.entries[i]
		if !ok {
			r.t.Fatalf("nobody has applied %d, of %d", i, r.book.last)
		}
		if c, e := image.Decode([]byte(text)); e == api.OK {
			m.Apply(c)
		}
	}
	p, _ := m.Part(k)
	return p
}

// wantLed: each partition is led, up to all that was ever committed there.
func (r *run) wantLed() {
	r.t.Helper()
	for k, s := range r.book.parts {
		id := r.leader(k)
		if id < 0 {
			r.t.Errorf("partition %d isn't led", k)
			continue
		}
		if _, high, _ := r.x.Part(id, k); high < s.high {
			r.t.Errorf("partition %d is led up to %d, committed was up to %d", k, high, s.high)
		}
		for _, seen := range r.x.Trace() {
			if _, high, _ := r.x.Part(id, k); seen.Kind == api.TrSent && seen.Part == k && seen.Offset >= high {
				r.t.Errorf("partition %d is led up to %d, but seen was %+v", k, high, seen)
			}
		}
	}
}

// TestLed: behind 400 calm rounds each partition is led.
func TestLed(t *testing.T) {
	t.Parallel()
	drawnRuns(t, 40, 1, anySettings, func(r *run, draw *rand.Rand) {
		r.trouble(draw, draw.Intn(4000))
		r.calm(draw.Intn(100))
		r.calmRounds(400)
		r.wantLed()
	})
}

// moveFor is how many calm rounds behind an EMove the partition has moved.
func (r *run) moveFor() int {
	return 400 + 8*opsOf(r.c) + r.events
}

// wantStands: a partition stands on as many nodes as it should, from one of them on, and one of these leads it.
func (r *run) wantStands(k, from int) {
	r.t.Helper()
	var want []int
	for i := range r.c.Copies {
		want = append(want, (from+i)%r.c.Nodes)
	}
	slices.Sort(want)
	p := r.part(k)
	if !slices.Equal(p.Replicas, want) || len(p.Target) > 0 {
		r.t.Errorf("partition %d: %+v, want it on %v", k, p, want)
	}
	if !slices.Contains(want, r.leader(k)) {
		r.t.Errorf("partition %d is led by %d, want one of %v", k, r.leader(k), want)
	}
}

// TestMoved: an EMove, with 800 calm rounds ahead and some behind, is done.
func TestMoved(t *testing.T) {
	t.Parallel()
	drawnRuns(t, 15, 1, anySettings, func(r *run, draw *rand.Rand) {
		r.trouble(draw, draw.Intn(1000))
		for range 2 {
			r.calm(draw.Intn(100))
			r.calmRounds(800)
			k, from := draw.Intn(r.c.Parts), draw.Intn(r.c.Nodes)
			r.do(api.Event{Kind: api.EMove, A: k, B: from})
			if draw.Intn(2) == 0 {
				// Who leads the quorum goes on knowing what it was asked, or others do.
				r.calm(draw.Intn(100))
			}
			r.calmRounds(r.moveFor())
			r.wantStands(k, from)
			r.wantLed()
		}
		r.finish()
		r.laws()
	})
}

// lastUp is the last index that a node that is up has applied.
func (r *run) lastUp() int {
	last := 0
	for id := range r.c.Nodes {
		for _, c := range r.x.Applied(id) {
			last = max(last, c.Index)
		}
	}
	return last
}

// TestHalfDown: if half of the nodes are down, or more, nobody applies anything more than somebody that is up has applied by 300 rounds.
func TestHalfDown(t *testing.T) {
	t.Parallel()
	drawnRuns(t, 25, 2, anySettings, func(r *run, draw *rand.Rand) {
		r.trouble(draw, draw.Intn(1000))
		least := (r.c.Nodes + 1) / 2
		for _, id := range draw.Perm(r.c.Nodes)[:least+draw.Intn(r.c.Nodes-least)] {
			r.breaks(id)
		}
		if draw.Intn(2) == 0 {
			r.calm(draw.Intn(100))
		}
		r.x.Do(api.Event{Kind: api.EHeal})
		r.calmRounds(300)
		last := r.lastUp()
		r.do(api.Event{Kind: api.EMove, A: draw.Intn(4), B: draw.Intn(5)})
		r.calmRounds(300)
		if now := r.lastUp(); now != last {
			t.Errorf("of %d nodes %v are down, but the others go on from %d to %d", r.c.Nodes, r.down, last, now)
		}
	})
}

// pauses lets calm rounds go by in which the clocks of all clients but the first ones, so many, stand still.
func (r *run) pauses(count, awake int) {
	r.t.Helper()
	for range count {
		for e := range r.round {
			if e.Kind != api.ETick || e.A < r.c.Nodes+awake {
				r.x.Do(e)
			}
		}
	}
	r.lookAll()
}

// TestOneDown: if one of three or more goes down behind 400 calm rounds, and stays down, P10 holds, too.
func TestOneDown(t *testing.T) {
	t.Parallel()
	late := 0
	drawnRuns(t, 40, 3, func(draw *rand.Rand, nodes int) api.Config {
		c := anySettings(draw, nodes)
		c.Copies = nodes
		if draw.Intn(3) == 0 {
			c = busySettings(draw, nodes)
		}
		return c
	}, func(r *run, draw *rand.Rand) {
		r.trouble(draw, draw.Intn(1500))
		r.calm(draw.Intn(100))
		if draw.Intn(3) > 0 {
			r.pauses(400, 0) // so that the programs go on behind it
		} else {
			r.calmRounds(400)
		}
		r.calmRounds(draw.Intn(60))
		if !r.x.Done() {
			late++
		}
		id := draw.Intn(r.c.Nodes)
		if draw.Intn(2) == 0 {
			id = max(0, r.leader(draw.Intn(r.c.Parts+2)))
		}
		r.breaks(id)
		r.riseAll(draw.Intn(100))
		r.finish()
		r.laws()
		if r.x.Up(id) {
			t.Errorf("the node %d is up", id)
		}
	})
	if late < 15 {
		t.Errorf("%d programs went on", late)
	}
}

// TestOneDownAmidWrites: the leader goes down for ever while many write to it.
func TestOneDownAmidWrites(t *testing.T) {
	t.Parallel()
	for rounds := 4; rounds < 40; rounds += 2 {
		var ops []api.Op
		for i := range 20 {
			ops = append(ops, send(0, string(rune('a'+i))))
		}
		r := newRun(t, settings(3, 1, append(ops, commits), append(ops, commits), append(ops, commits), append(ops, aborts)))
		r.pauses(400, 0)
		for awake := range 4 {
			r.pauses(1, awake) // so that one or the other writes at any time
		}
		r.calmRounds(rounds)
		if r.x.Done() {
			t.Errorf("all have ended within %d rounds", rounds)
		}
		for k := range 3 {
			if p := r.part(k); len(p.Isr) != 3 {
				t.Errorf("behind %d rounds there are in sync: %+v", rounds, p)
			}
		}
		r.breaks(r.leader(0))
		r.riseAll(0)
		r.finish()
		r.laws()
	}
}
