package cluster

import (
	"math/rand"
	"slices"
	"testing"

	"penstock/api"
)

// copySettings are those of so many nodes, and clients that write, and copy, amid transactions and groups.
func copySettings(draw *rand.Rand, nodes int) api.Config {
	c := api.Config{Nodes: nodes, Parts: 2 + draw.Intn(2), Copies: 1 + draw.Intn(nodes)}
	if draw.Intn(2) == 0 {
		c.Copies = nodes
	}
	for number := range 2 + draw.Intn(3) {
		p := programOf(draw, number, c.Parts, 10+draw.Intn(30))
		p.Group = draw.Intn(2)
		for i := range p.Ops {
			if draw.Intn(3) == 0 {
				p.Ops[i].Kind, p.Ops[i].Count = api.OCopy, 1+draw.Intn(3)
			}
			if p.Ops[i].Kind == api.OSend && draw.Intn(2) == 0 {
				p.Ops[i].Part = 0
			}
			if i > 0 && p.Ops[i].Kind == api.OCopy && p.Ops[i-1].Kind == api.OSend {
				p.Ops[i-1].Kind = api.OCommit
			}
		}
		c.Clients = append(c.Clients, p)
	}
	return c
}

// splitRounds lets rounds go by in which some are cut off from others, some clocks stand still, and some hear nothing of what comes to them till later.
func (r *run) splitRounds(draw *rand.Rand, count int) {
	r.t.Helper()
	all := r.c.Nodes + len(r.c.Clients)
	side := make([]int, r.c.Nodes)
	still, deaf := make([]bool, all), make([]bool, all)
	for i := range all {
		still[i], deaf[i] = draw.Intn(5) == 0, draw.Intn(8) == 0
	}
	for i := range side {
		side[i] = draw.Intn(2) * draw.Intn(2)
	}
	for a := range side {
		for b := range a {
			if side[a] != side[b] {
				r.do(api.Event{Kind: api.ECut, A: a, B: b})
			}
		}
	}
	lossy := draw.Intn(3) == 0
	for range count {
		list := flight(r.x)
		for i := len(list) - 1; i >= 0; i-- {
			if deaf[list[i].To] && (len(list) < 200 || draw.Intn(2) == 0) {
				list = slices.Delete(list, i, i+1)
			}
		}
		for n, at := len(list), 0; n > 0; n-- {
			for at < r.x.Flight() {
				if p, _ := r.x.way.Peek(at); !deaf[p.To] {
					break
				}
				at++
			}
			kind := api.EDeliver
			if lossy && draw.Intn(10) == 0 {
				kind = api.EDrop + draw.Intn(2)
			}
			r.x.Do(api.Event{Kind: kind, A: at})
		}
		for i := range all {
			if !still[i] {
				r.x.Do(api.Event{Kind: api.ETick, A: i, B: draw.Intn(1 << 20)})
			}
		}
		if draw.Intn(15) == 0 {
			r.do(api.Event{Kind: api.EAgain, A: draw.Intn(4)})
		}
		if draw.Intn(25) == 0 {
			r.do(api.Event{Kind: api.ECrash, A: draw.Intn(5), B: draw.Intn(200) - 20})
		}
		if draw.Intn(12) == 0 {
			r.do(api.Event{Kind: api.ERise, A: draw.Intn(5), C: draw.Intn(100)})
		}
		if draw.Intn(60) == 0 {
			r.do(api.Event{Kind: api.EMove, A: draw.Intn(4), B: draw.Intn(5)})
		}
	}
	r.lookAll()
	if draw.Intn(3) > 0 {
		r.do(api.Event{Kind: api.EHeal})
	}
}

// TestSplits: where some are cut off for long, and don't know what has become of them: P3 to P10.
func TestSplits(t *testing.T) {
	t.Parallel()
	drawnRuns(t, 20, 2, copySettings, func(r *run, draw *rand.Rand) {
		for range 3 + draw.Intn(12) {
			r.splitRounds(draw, draw.Intn(60))
			r.calmRounds(draw.Intn(15))
		}
		r.calm(draw.Intn(100))
		r.finish()
		r.laws()
	})
}
