package client

import (
	"fmt"
	"math/rand"
	"testing"

	"penstock/api"
)

// The partition to which OCopy writes, and to which nobody else does.
const copiesTo = 1

// program draws a program. Only the group 0 copies, and only from the partition 0, so that each record is there once.
func program(draw *rand.Rand, number, parts, count int) api.Program {
	p := api.Program{Group: draw.Intn(2)}
	for i := range count {
		op := api.Op{Kind: 1 + draw.Intn(5), Part: draw.Intn(parts), To: copiesTo, Count: draw.Intn(6), Value: fmt.Sprintf("%d:%02d", number, i)}
		if draw.Intn(3) == 0 {
			op.Kind, op.Part = api.OSend, op.Part*draw.Intn(2)
		}
		if op.Kind == api.OAbort && draw.Intn(2) == 0 {
			op.Kind = api.OCommit
		}
		if op.Kind == api.OPoll && p.Group == 0 || op.Kind == api.OCopy && p.Group != 0 {
			op.Kind = api.OCopy + api.OPoll - op.Kind
		}
		if op.Kind == api.OCopy || op.Part == copiesTo {
			op.Part = 0
		}
		p.Ops = append(p.Ops, op)
	}
	return p
}

// drawn are settings by chance, of so many nodes.
func drawn(draw *rand.Rand, nodes int) api.Config {
	c := api.Config{Nodes: nodes, Parts: 2 + draw.Intn(3), Copies: 1 + draw.Intn(nodes)}
	for number := range 1 + draw.Intn(api.MaxClients) {
		c.Clients = append(c.Clients, program(draw, number, c.Parts, 5+draw.Intn(35)))
	}
	return c
}

// happening draws an event.
func happening(draw *rand.Rand, c api.Config) api.Event {
	nodes := c.Nodes
	any := draw.Intn(api.MaxMsgs)
	switch r := draw.Intn(200); {
	case r < 80:
		return api.Event{Kind: api.ETick, A: draw.Intn(nodes + len(c.Clients)), B: draw.Intn(1 << 20)}
	case r < 150:
		return api.Event{Kind: api.EDeliver}
	case r < 173: // late ones come up, but not as often
		return api.Event{Kind: api.EDeliver, A: any}
	case r < 177:
		return api.Event{Kind: api.EDrop, A: any}
	case r < 183:
		return api.Event{Kind: api.ECopy, A: any}
	case r < 186:
		return api.Event{Kind: api.ECrash, A: draw.Intn(nodes), B: draw.Intn(300) - 10}
	case r < 192:
		return api.Event{Kind: api.ERise, A: draw.Intn(nodes), C: draw.Intn(200)}
	case r < 193:
		return api.Event{Kind: api.ECut, A: draw.Intn(nodes), B: draw.Intn(nodes)}
	case r < 196:
		return api.Event{Kind: api.EHeal}
	case r < 197:
		return api.Event{Kind: api.EMove, A: draw.Intn(c.Parts), B: draw.Intn(nodes)}
	case r < 198:
		return api.Event{Kind: api.EAgain, A: draw.Intn(len(c.Clients))}
	}
	return api.Event{Kind: api.EDeliver, A: -1}
}

// TestChaos: whatever happens, what the clients have seen is so, and their programs end: P5 to P10, and P19.3.
func TestChaos(t *testing.T) {
	t.Parallel()
	tally := map[string]int{}
	for seed := range 80 {
		draw := rand.New(rand.NewSource(int64(seed)))
		x := newWorld(t, drawn(draw, 1+seed%5))
		for range draw.Intn(40) {
			x.calmRound()
		}
		for range 10 {
			for range 400 {
				x.do(happening(draw, x.config))
			}
			x.sleep(draw, 3, draw.Intn(30)+draw.Intn(12)/11*x.patience())
		}
		x.calm()
		x.finish()
		x.inTheEnd(seed, tally)
	}
	wantTally(t, tally, map[string]int{
		"sent": 1000, "commit": 500, "abort": 100, "failed": 100, "read": 500, "seek": 500, "done": 150,
		"broken": 200, "begun anew": 500, "begun anew by itself": 5, "learnt later": 10, "its generation passed": 10, "copied": 50,
	})
}

// sleep lets calm rounds go by, through which one client in so many sleeps.
func (x *world) sleep(draw *rand.Rand, many, rounds int) {
	x.t.Helper()
	for number := range x.clients {
		x.asleep[len(x.nodes)+number] = draw.Intn(many) == 0
	}
	for range rounds {
		x.calmRound()
	}
	clear(x.asleep)
}

// TestSleepers: who sleeps for so long that it is let go, and that what it has begun is aborted, begins anew by itself.
func TestSleepers(t *testing.T) {
	t.Parallel()
	tally := map[string]int{}
	for seed := range 20 {
		draw := rand.New(rand.NewSource(int64(seed)))
		x := newWorld(t, drawn(draw, 1+seed%5))
		for !x.done() {
			x.sleep(draw, 3, 1+draw.Intn(90))
			x.sleep(draw, 1, draw.Intn(2)*x.patience())
		}
		x.inTheEnd(seed, tally)
	}
	wantTally(t, tally, map[string]int{"begun anew by itself": 30, "its generation passed": 5, "failed": 20, "copied": 20})
}

// inTheEnd: all that the clients have seen is so; what has happened is counted.
func (x *world) inTheEnd(seed int, tally map[string]int) {
	x.t.Helper()
	x.rest()
	x.laws()
	x.wantCopied(0, copiesTo)
	if x.t.Failed() {
		x.t.Fatalf("seed %d", seed)
	}
	for what, count := range x.tally {
		tally[what] += count
	}
}

// wantTally: each of these has happened so often, at least.
func wantTally(t *testing.T, tally, least map[string]int) {
	t.Helper()
	for what, count := range least {
		if tally[what] < count {
			t.Errorf("%s: %d times", what, tally[what])
		}
	}
	t.Log(tally)
}
