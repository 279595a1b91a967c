package cluster

import (
	"math/rand"
	"slices"
	"testing"

	"penstock/api"
)

// TestLaws: whatever happens, P3 to P9 hold, and in calm rounds all programs end: P10.
func TestLaws(t *testing.T) {
	t.Parallel()
	tally := map[int]int{}
	drawnRuns(t, 60, 1, anySettings, func(r *run, draw *rand.Rand) {
		for range 1 + draw.Intn(6) {
			r.trouble(draw, draw.Intn(600))
			r.calmRounds(draw.Intn(30))
		}
		if r.c.Nodes == 1 && draw.Intn(2) == 0 {
			r.riseAll(draw.Intn(100)) // without an EHeal
		} else {
			r.calm(draw.Intn(100))
		}
		r.finish()
		r.laws()
		for _, s := range r.x.Trace() {
			tally[s.Kind]++
		}
	})
	for kind := api.TrSent; kind <= api.TrDone; kind++ {
		if tally[kind] < 50 {
			t.Errorf("of the kind %d were seen %d", kind, tally[kind])
		}
	}
}

// TestBusyLaws: where many write at a time, and where programs are as long as may be.
func TestBusyLaws(t *testing.T) {
	t.Parallel()
	for _, settings := range []func(*rand.Rand, int) api.Config{busySettings, fullSettings} {
		drawnRuns(t, 10, 1, settings, func(r *run, draw *rand.Rand) {
			r.trouble(draw, draw.Intn(3000))
			r.calm(draw.Intn(100))
			r.finish()
			r.laws()
		})
	}
}

// TestLongTransactions: where all goes well no transaction is aborted, however long its operations take.
func TestLongTransactions(t *testing.T) {
	t.Parallel()
	for nodes := 1; nodes <= api.MaxNodes; nodes += 2 {
		polls := slices.Repeat([]api.Op{poll(16)}, api.MaxOps-2)
		var sends []api.Op
		for i := range api.MaxOps - 2 {
			sends = append(sends, send(i%4, string(rune('b'+i))))
		}
		c := settings(nodes, 4, slices.Concat([]api.Op{send(0, "a")}, polls, []api.Op{commits}), append(sends, aborts), polls)
		for group := range c.Clients {
			c.Clients[group].Group = group
		}
		r := newRun(t, c)
		r.finish()
		r.laws()
		if list := r.x.Trace(); countOf(list, api.TrFailed) > 0 || countOf(list, api.TrCommit) != 1 || countOf(list, api.TrAbort) != 1 {
			t.Errorf("of %d nodes: %+v", nodes, list)
		}
		r.wantValues(0, "a")
	}
}

// TestLongReads: who has to pass over a lot to find something to copy is among its group's members all the while, and copies it.
func TestLongReads(t *testing.T) {
	t.Parallel()
	for nodes := 1; nodes <= api.MaxNodes; nodes += 2 {
		var ops []api.Op
		for range api.MaxOps - 3 {
			ops = append(ops, send(0, "no"))
		}
		ops = append(ops, aborts, send(0, "yes"), commits)
		r := newRun(t, settings(nodes, 2, ops, ops, ops, []api.Op{duplicate(0, 1, 2), duplicate(0, 1, 2)}))
		r.pauses(1500, 3)
		if n := countOf(r.x.Trace(), api.TrDone); n != 3 {
			t.Errorf("of %d nodes: %d have ended", nodes, n)
		}
		r.finish()
		if list := r.of(3); countOf(list, api.TrFailed) > 0 {
			t.Errorf("of %d nodes: %+v", nodes, list)
		}
		r.wantValues(1, "yes", "yes", "yes")
	}
}
