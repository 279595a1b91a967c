package cluster

import (
	"fmt"
	"math/rand"
	"testing"

	"penstock/api"
)

// programOf is any program, of so many operations, whose values are its own.
func programOf(draw *rand.Rand, number, parts, count int) api.Program {
	p := api.Program{Group: draw.Intn(3)}
	for i := range count {
		op := api.Op{Kind: 1 + draw.Intn(5), Part: draw.Intn(parts), To: draw.Intn(parts), Count: draw.Intn(7), Value: fmt.Sprintf("%d:%02d", number, i)}
		if draw.Intn(3) == 0 {
			op.Kind = api.OSend
		}
		if op.Kind == api.OAbort && draw.Intn(2) == 0 {
			op.Kind = api.OCommit
		}
		if draw.Intn(20) == 0 {
			op.Count = draw.Intn(api.MaxValues + 1)
		}
		p.Ops = append(p.Ops, op)
	}
	return p
}

// anySettings are any settings of so many nodes.
func anySettings(draw *rand.Rand, nodes int) api.Config {
	c := api.Config{Nodes: nodes, Parts: 1 + draw.Intn(api.MaxParts), Copies: 1 + draw.Intn(nodes)}
	for number := range draw.Intn(api.MaxClients + 1) {
		c.Clients = append(c.Clients, programOf(draw, number, c.Parts, draw.Intn(25)))
	}
	return c
}

// busySettings are those of so many nodes, a copy on each, and clients that write all the time.
func busySettings(draw *rand.Rand, nodes int) api.Config {
	c := api.Config{Nodes: nodes, Parts: 1 + draw.Intn(2), Copies: nodes}
	for number := range 2 + draw.Intn(3) {
		var ops []api.Op
		often := draw.Intn(3)
		for i := 0; len(ops) < api.MaxOps-2; i++ {
			ops = append(ops, send(draw.Intn(c.Parts), fmt.Sprintf("%d:%02d", number, i)))
			if draw.Intn(2) < often {
				ops = append(ops, commits)
			}
		}
		c.Clients = append(c.Clients, api.Program{Ops: append(ops, commits)})
	}
	return c
}

// fullSettings are those of so many nodes, and clients with the longest programs, some of them mostly of one kind.
func fullSettings(draw *rand.Rand, nodes int) api.Config {
	c := api.Config{Nodes: nodes, Parts: 1 + draw.Intn(api.MaxParts), Copies: 1 + draw.Intn(nodes)}
	for number := range 1 + draw.Intn(api.MaxClients) {
		p := programOf(draw, number, c.Parts, api.MaxOps)
		p.Group = draw.Intn(2)
		kind := draw.Intn(7)
		for i := range p.Ops {
			if api.OSend <= kind && kind <= api.OCopy && draw.Intn(3) > 0 {
				p.Ops[i].Kind = kind
			}
		}
		c.Clients = append(c.Clients, p)
	}
	return c
}

// anyEvent is an event as it may happen where most goes well.
func anyEvent(draw *rand.Rand) api.Event {
	a, b := draw.Intn(1<<20)-1<<10, draw.Intn(1<<20)-1<<10
	switch p := draw.Intn(200); {
	case p < 80:
		return api.Event{Kind: api.ETick, A: a, B: b}
	case p < 150:
		return api.Event{Kind: api.EDeliver}
	case p < 174: // late ones come up, but not as often
		return api.Event{Kind: api.EDeliver, A: a}
	case p < 178:
		return api.Event{Kind: api.EDrop, A: a}
	case p < 184:
		return api.Event{Kind: api.ECopy, A: a}
	case p < 187:
		return api.Event{Kind: api.ECrash, A: a, B: draw.Intn(300) - 10}
	case p < 193:
		return api.Event{Kind: api.ERise, A: a, C: draw.Intn(200)}
	case p < 194:
		return api.Event{Kind: api.ECut, A: a, B: b}
	case p < 197:
		return api.Event{Kind: api.EHeal}
	case p < 198:
		return api.Event{Kind: api.EMove, A: a, B: b}
	case p < 199:
		return api.Event{Kind: api.EAgain, A: a}
	}
	return api.Event{Kind: draw.Intn(100) - 50, A: a, B: b, C: a}
}

// bytesOf are the bytes of so many events, of all kinds alike.
func bytesOf(draw *rand.Rand, events int) []byte {
	list := make([]byte, 4*events)
	draw.Read(list)
	return list
}

// trouble lets about so many events happen, in one way or another.
func (r *run) trouble(draw *rand.Rand, events int) {
	r.t.Helper()
	switch draw.Intn(4) {
	case 0:
		r.play(bytesOf(draw, events))
	case 1: // a few now and then, amid calm rounds
		for range events / 40 {
			r.calmRounds(draw.Intn(6))
			r.play(bytesOf(draw, draw.Intn(4)))
		}
	default:
		for range events {
			r.do(anyEvent(draw))
		}
	}
}

// drawnRuns lets a test look at as many runs, by chance, of settings of 1 to 5 nodes, or more than that; some begin calmly.
func drawnRuns(t *testing.T, count, least int, settings func(*rand.Rand, int) api.Config, look func(*run, *rand.Rand)) {
	t.Helper()
	for seed := range count {
		draw := rand.New(rand.NewSource(int64(seed)))
		r := newRun(t, settings(draw, least+seed%(api.MaxNodes+1-least)))
		if draw.Intn(3) > 0 {
			r.calmRounds(draw.Intn(60))
		}
		look(r, draw)
		if t.Failed() {
			t.Fatalf("seed %d", seed)
		}
	}
}
