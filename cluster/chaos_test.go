package cluster

import (
	"math/rand"
	"testing"

	"penstock/api"
)

// TestLaws: whatever happens, P3 to P9 hold, and in calm rounds all programs end: P10.
func TestLaws(t *testing.T) {
	t.Parallel()
	tally := map[int]int{}
	drawnRuns(t, 60, 1, anySettings, func(r *run, draw *rand.Rand) {
		for range 1 + draw.Intn(6) {
			r.trouble(draw, draw.Intn(600))
			r.calmRounds(draw.Intn(30))
		}
		if r.c.Nodes == 1 && draw.Intn(2) == 0 {
			r.riseAll(draw.Intn(100)) // without an EHeal
		} else {
			r.calm(draw.Intn(100))
		}
		r.finish()
		r.laws()
		for _, s := range r.x.Trace() {
			tally[s.Kind]++
		}
	})
	for kind := api.TrSent; kind <= api.TrDone; kind++ {
		if tally[kind] < 50 {
			t.Errorf("of the kind %d were seen %d", kind, tally[kind])
		}
	}
}

// TestBusyLaws: where many write at a time.
func TestBusyLaws(t *testing.T) {
	t.Parallel()
	drawnRuns(t, 10, 1, busySettings, func(r *run, draw *rand.Rand) {
		r.trouble(draw, 1000+draw.Intn(4000))
		r.calm(draw.Intn(100))
		r.finish()
		r.laws()
	})
}
