package node

import (
	"fmt"
	"math/rand"
	"slices"
	"testing"

	"penstock/api"
	"penstock/batch"
)

// pull takes a message out of flight, or a double of it.
func (x *crowd) pull() (api.Msg, bool) {
	if len(x.flight) == 0 {
		return api.Msg{}, false
	}
	i := 0
	if x.draw.Intn(4) == 0 { // late ones come up, but not as often
		i = x.draw.Intn(len(x.flight))
	}
	m := x.flight[i]
	if x.draw.Intn(20) > 0 {
		x.flight = slices.Delete(x.flight, i, i+1)
	}
	return m, true
}

// anything is some request.
func (x *crowd) anything() api.Msg {
	d := x.draw
	m := api.Msg{
		Kind: api.MProduce + d.Intn(api.MOffset-api.MProduce+1), Part: d.Intn(len(x.kept)), Offset: d.Intn(6), Tx: d.Intn(3), Inc: d.Intn(6),
		Pid: uint64(1 + d.Intn(12)), Epoch: 2 * d.Intn(4), Commit: d.Intn(2) == 0, Group: d.Intn(2), Gen: d.Intn(5), Member: d.Intn(3),
	}
	value := fmt.Sprint("v", x.asked)
	m.Batch = records(value)
	if d.Intn(2) == 0 {
		m.Batch = within(m.Pid, m.Epoch, d.Intn(2), value)
	}
	if m.Kind == api.MMarker { // which nodes alone send
		m.Kind = api.MProduce
	}
	return m
}

// someMove asks for a move as chapter 20 does.
func (x *crowd) someMove() {
	x.t.Helper()
	var list []int
	from := x.draw.Intn(len(x.nodes))
	for i := range x.config.Copies {
		list = append(list, (from+i)%len(x.nodes))
	}
	slices.Sort(list)
	if x.moves {
		x.move(x.draw.Intn(x.config.Parts), list...)
	}
}

// client lets one of the clients go on, or begin anew; without clients anything is asked.
func (x *crowd) client() {
	x.t.Helper()
	if len(x.patrons) == 0 {
		x.ask(x.draw.Intn(len(x.nodes)), x.anything())
		return
	}
	p := x.patrons[x.draw.Intn(len(x.patrons))]
	if x.draw.Intn(60) == 0 {
		p.again()
	} else {
		p.tick()
	}
}

// happen is one happening.
func (x *crowd) happen() {
	x.t.Helper()
	id, other := x.draw.Intn(len(x.nodes)), x.draw.Intn(len(x.nodes))
	switch r := x.draw.Intn(200); {
	case r < 60:
		x.tick(id, x.draw.Uint64())
	case r < 150:
		if m, ok := x.pull(); ok {
			x.deliver(m)
		}
	case r < 155:
		x.pull()
	case r < 185:
		x.client()
	case r < 188:
		x.disks[id].Arm(x.draw.Intn(300))
	case r < 190:
		x.rise(id)
	case r < 192:
		if x.nodes[id] == nil {
			x.rise(id)
		}
	case r < 193:
		x.cut[pair(id, other)] = id != other
	case r < 195:
		clear(x.cut)
	case r < 196:
		x.someMove()
	default:
		for i := range x.nodes {
			x.tick(i, x.draw.Uint64())
		}
	}
}

// happenings are so many of them.
func (x *crowd) happenings(count int) {
	x.t.Helper()
	for i := range count {
		x.happen()
		if x.t.Failed() {
			x.t.Fatalf("the happening %d", i)
		}
	}
}

// drawn are settings by chance, of so many nodes.
func drawn(draw *rand.Rand, nodes, leastParts int) api.Config {
	return api.Config{Nodes: nodes, Parts: leastParts + draw.Intn(api.MaxParts-leastParts+1), Copies: 1 + draw.Intn(nodes)}
}

// TestChaos: whatever happens there is one quorum and one log; and when all goes on again they come together, and answer.
func TestChaos(t *testing.T) {
	t.Parallel()
	seen := map[string]int{}
	for seed := range 100 {
		draw := rand.New(rand.NewSource(int64(seed)))
		x := newCrowd(t, drawn(draw, 1+seed%5, 1), draw, seen)
		for range draw.Intn(3) * 20 {
			x.calmRound()
		}
		x.moves = seed%3 == 0
		x.happenings(400)
		x.riseAll()
		x.comeTogether()
		if t.Failed() {
			t.Fatalf("seed %d", seed)
		}
	}
	for what, least := range map[string]int{"broken": 50, "kept": 200, "E0": 500, "E10": 100, "E11": 10, "E12": 100, "E15": 20, "E16": 5} {
		if seen[what] < least {
			t.Errorf("%s: %d times", what, seen[what])
		}
	}
	// Packets beyond these would be lost.
	if most := seen["most in flight"]; most > api.MaxMsgs/2 {
		t.Errorf("%d in flight", most)
	}
}

// TestQuiet: what is sent for what was delivered comes to an end, without any tick; and so they come together, too.
func TestQuiet(t *testing.T) {
	t.Parallel()
	for seed := range 40 {
		draw := rand.New(rand.NewSource(int64(seed)))
		x := newCrowd(t, drawn(draw, 1+seed%5, 1), draw, map[string]int{})
		x.happenings(400)
		x.riseAll()
		for round := 0; !x.settled(); round++ {
			if round == 100 {
				t.Fatalf("seed %d: not settled", seed)
			}
			for id := range x.nodes {
				x.tick(id, uint64(id+7*round))
			}
			for count := 0; len(x.flight) > 0; count++ {
				if count == 5000 {
					t.Fatalf("seed %d: %+v", seed, x.flight[0])
				}
				m := x.flight[0]
				x.flight = x.flight[1:]
				x.deliver(m)
			}
		}
	}
}

// comeTogether: within 500 rounds all have come to one state, what was ever committed is below the leaders' high watermarks, and they lay what they are asked to.
func (x *crowd) comeTogether() {
	x.t.Helper()
	for round := 0; !x.settled() || x.moving(); round++ {
		if round == 500 {
			x.t.Fatal("not settled within 500 rounds")
		}
		x.calmRound()
	}
	for k := range x.kept {
		x.wantLaid(k)
	}
	for range 50 {
		x.calmRound()
		x.seen["most in flight"] = max(x.seen["most in flight"], len(x.flight))
	}
	if !x.settled() {
		x.t.Error("no more settled")
	}
	for k := range x.kept {
		had := x.kept[k]
		if _, high, _ := x.nodes[x.part(k).Leader].Part(k); len(had) > 0 && high < had[len(had)-1].Base+1 {
			x.t.Errorf("the partition %d: %d, where there was %+v", k, high, had[len(had)-1])
		}
	}
	for _, m := range x.replies {
		x.seen[fmt.Sprint("E", m.E)]++
	}
}

// moving tells whether a partition is to stand elsewhere; who leads it may change by that.
func (x *crowd) moving() bool {
	x.t.Helper()
	for k := range x.kept {
		if len(x.part(k).Target) > 0 {
			return true
		}
	}
	return false
}

// TestDeals: transactions are whole or not at all, in order, and copied once, whatever happens.
func TestDeals(t *testing.T) {
	t.Parallel()
	seen := map[string]int{}
	for seed := range 25 {
		draw := rand.New(rand.NewSource(int64(seed)))
		x := newCrowd(t, drawn(draw, 1+seed%5, 2), draw, seen)
		x.moves = true
		for i := range api.MaxClients {
			x.patrons = append(x.patrons, &patron{crowd: x, number: i, copies: i >= 2})
		}
		for range 4 {
			x.happenings(400)
			x.riseAll()
			for range 100 {
				x.calmRound()
			}
		}
		had := x.finished()
		for range 200 {
			x.calmRound()
		}
		if now := x.finished(); now-had < 3 {
			t.Errorf("in 200 rounds %d transactions have ended", now-had)
		}
		for _, p := range x.patrons {
			p.stop = true
		}
		for range 250 {
			x.calmRound()
		}
		x.wantDeals()
		if t.Failed() {
			t.Fatalf("seed %d", seed)
		}
	}
	for what, least := range map[string]int{"broken": 50, "kept": 5000, "ended": 1000, "ended, learnt later": 10, "failed": 30, "copied": 200} {
		if seen[what] < least {
			t.Errorf("%s: %d times", what, seen[what])
		}
	}
}

// finished is how many transactions have ended as they were asked to.
func (x *crowd) finished() int {
	count := 0
	for _, d := range x.deals {
		if d.ended {
			count++
		}
	}
	return count
}

// wantDeals holds what is committed in all partitions against what the clients have learnt.
func (x *crowd) wantDeals() {
	x.t.Helper()
	all := make([][]string, x.config.Parts)
	for k := range all {
		log, high, leads := x.nodes[x.part(k).Leader].Part(k)
		if !leads || len(log) > 0 && log[len(log)-1].Base+batch.Size(log[len(log)-1]) != high {
			x.t.Errorf("the partition %d isn't whole: %v, up to %d", k, leads, high)
		}
		all[k] = committed(log)
	}
	for _, d := range x.deals {
		x.wantWhole(d, all)
	}
	for k, list := range all {
		wantOrder(x.t, fmt.Sprint("the partition ", k), list)
	}
	// What is copied is a beginning of what there is to copy.
	if copies := all[copiesTo]; len(copies) > len(all[copiesFrom]) || !slices.Equal(copies, all[copiesFrom][:len(copies)]) {
		x.t.Errorf("copied: %q\nof %q", copies, all[copiesFrom])
	}
}

// wantWhole: of a transaction all is committed, or nothing, as its client has learnt.
func (x *crowd) wantWhole(d *deal, all [][]string) {
	x.t.Helper()
	there, total := 0, 0
	for k, values := range d.values {
		// What is copied, and came to nothing, is copied again.
		if k == copiesTo && !(d.ended && d.commit) {
			continue
		}
		for _, v := range values {
			total++
			if slices.Contains(all[k], v) {
				there++
			}
		}
	}
	whole := there == total
	none := there == 0
	if d.ended && d.commit && !whole || d.ended && !d.commit && !none || d.failed && !none || !whole && !none {
		x.t.Errorf("of the transaction %+v %d of %d are committed", *d, there, total)
	}
}

// wantOrder: values stand in the order in which their clients wrote them, each once.
func wantOrder(t *testing.T, what string, list []string) {
	t.Helper()
	last := map[byte]string{}
	for _, v := range list {
		if v <= last[v[0]] {
			t.Errorf("%s: %q stands behind %q", what, v, last[v[0]])
		}
		last[v[0]] = v
	}
}
