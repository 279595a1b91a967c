package raft

import (
	"math/rand"
	"slices"
	"strconv"
	"strings"
	"testing"

	"penstock/api"
)

// quorum is nodes that keep what Take answers ahead of sending its messages, and all that they ever told.
type quorum struct {
	t       *testing.T
	draw    *rand.Rand
	nodes   []*Raft
	kept    []api.Hard
	applied [][]string // of each node, what it was told, from the index 1 on
	flight  []api.RMsg
	leads   map[int]int    // of each term, who led it
	told    map[int]string // of each index, what was told there
	laid    int
	seen    map[string]int
}

func newQuorum(t *testing.T, n int, draw *rand.Rand, seen map[string]int) *quorum {
	q := &quorum{t: t, draw: draw, leads: map[int]int{}, told: map[int]string{}, seen: seen}
	for id := range n {
		q.nodes = append(q.nodes, newNode(t, id, n, fresh()))
		q.kept = append(q.kept, fresh())
		q.applied = append(q.applied, nil)
	}
	return q
}

// snapshot stands for what was told up to an index.
func snapshot(list []string) []byte {
	return []byte(strings.Join(list, ","))
}

// do takes what the node wants done, and does it, up to one of the places at which it may break.
func (q *quorum) do(id int, breaks bool) {
	q.t.Helper()
	x := q.nodes[id].Take()
	place := 3
	if breaks {
		place = q.draw.Intn(3)
	}
	if place > 0 && x.Save {
		q.kept[id] = x.Hard
	}
	if place > 1 {
		q.apply(id, x)
	}
	if place == 2 && len(x.Msgs) > 0 {
		x.Msgs = x.Msgs[:q.draw.Intn(len(x.Msgs))]
	}
	if place > 1 {
		q.flight = append(q.flight, x.Msgs...)
	}
	if breaks {
		q.again(id)
	}
}

// again begins a node anew; what it was told is told again.
func (q *quorum) again(id int) {
	q.t.Helper()
	q.seen["again"]++
	q.nodes[id] = newNode(q.t, id, len(q.nodes), q.kept[id])
	q.applied[id] = nil
	q.do(id, false)
}

func (q *quorum) apply(id int, x api.Ready) {
	q.t.Helper()
	if x.Restore {
		q.seen["Restore"]++
		q.applied[id] = strings.Split(string(x.Snap), ",")
		for i, data := range q.applied[id] {
			q.hold(i+1, data)
		}
	}
	for _, c := range x.Commits {
		q.seen["Commit"]++
		q.applied[id] = append(q.applied[id], string(c.Data))
		if c.Index != len(q.applied[id]) {
			q.t.Errorf("the node %d is told the index %d, want %d", id, c.Index, len(q.applied[id]))
		}
		q.hold(c.Index, string(c.Data))
	}
	// Telling and committing are one thing to whoever takes at once.
	if commit := stateOf(q.nodes[id]).commit; commit != len(q.applied[id]) {
		q.t.Errorf("the node %d has committed up to %d, and told up to %d", id, commit, len(q.applied[id]))
	}
}

// hold holds what is told at an index against what was told there before.
func (q *quorum) hold(index int, data string) {
	q.t.Helper()
	if was, ok := q.told[index]; ok && was != data {
		q.t.Errorf("at the index %d %q was told, and %q", index, was, data)
	}
	q.told[index] = data
}

// look holds who leads against who led.
func (q *quorum) look() {
	q.t.Helper()
	for id, r := range q.nodes {
		if x := stateOf(r); x.role == api.Leader {
			if was, ok := q.leads[x.term]; ok && was != id {
				q.t.Errorf("both %d and %d lead the term %d", was, id, x.term)
			}
			q.leads[x.term] = id
		}
	}
}

// propose lays data that nobody else lays.
func (q *quorum) propose(id int) {
	q.laid++
	if _, e := q.nodes[id].Propose([]byte("d" + strconv.Itoa(q.laid))); e == api.OK {
		q.seen["laid"]++
	}
}

func (q *quorum) compact(id int) {
	q.t.Helper()
	if count := len(q.applied[id]); count > 0 {
		index := 1 + q.draw.Intn(count)
		if q.nodes[id].Compact(index, snapshot(q.applied[id][:index])) == api.OK {
			q.seen["Compact"]++
		}
	}
}

// pull takes a message out of flight, or a double of it.
func (q *quorum) pull() (api.RMsg, bool) {
	if len(q.flight) == 0 {
		return api.RMsg{}, false
	}
	at := q.draw.Intn(len(q.flight))
	if q.draw.Intn(3) > 0 { // late ones come up, but not as often
		at = 0
	}
	m := q.flight[at]
	if q.draw.Intn(8) > 0 {
		q.flight = slices.Delete(q.flight, at, at+1)
	}
	return m, true
}

// happen is one happening; away is who is cut off.
func (q *quorum) happen(away int) {
	q.t.Helper()
	id := q.draw.Intn(len(q.nodes))
	switch q.draw.Intn(20) {
	case 0, 1, 2, 3:
		q.nodes[id].Tick(q.draw.Uint64())
	case 4, 5:
		q.propose(id)
	case 6:
		q.compact(id)
	case 7:
		if q.draw.Intn(10) == 0 {
			q.do(id, true)
		}
	case 8:
		q.pull()
	default:
		if m, ok := q.pull(); ok && m.To != away && m.From != away {
			q.nodes[m.To].Step(m)
			id = m.To
		}
	}
	// Now and then several calls come ahead of a Take.
	if q.draw.Intn(4) > 0 {
		q.do(id, false)
	}
	q.look()
}

// calm are rounds in which everything goes on, till all have told the same; false: they don't come to that.
func (q *quorum) calm() bool {
	q.t.Helper()
	for round := range 300 {
		list := q.flight
		q.flight = nil
		for _, m := range list {
			q.nodes[m.To].Step(m)
			q.do(m.To, false)
		}
		for id, r := range q.nodes {
			// Draws that follow a plain rule may let two ask in step for ever.
			r.Tick(q.draw.Uint64())
			q.do(id, false)
		}
		q.look()
		if round > 20 && q.settled() {
			return true
		}
	}
	return false
}

// settled tells whether all follow one leader, and have told all that it has.
func (q *quorum) settled() bool {
	first := stateOf(q.nodes[0])
	for id, r := range q.nodes {
		x := stateOf(r)
		if x.leader == -1 || x.leader != first.leader || x.term != first.term || x.last != first.last || len(q.applied[id]) != x.last {
			return false
		}
	}
	return true
}

// TestOneQuorum: P12.8, whatever is lost, doubled and late, and whoever begins anew.
func TestOneQuorum(t *testing.T) {
	seen := map[string]int{}
	for seed := range 1500 {
		draw := rand.New(rand.NewSource(int64(seed)))
		q := newQuorum(t, 1+seed%5, draw, seen)
		away := -1
		for number := range 1500 {
			if number%100 == 0 {
				away = draw.Intn(2*len(q.nodes)) - len(q.nodes)
			}
			q.happen(away)
			if t.Failed() {
				t.Fatalf("seed %d, happening %d", seed, number)
			}
		}
		seen["terms"] += len(q.leads)
		if !q.calm() {
			t.Errorf("seed %d: they don't come to one log", seed)
		}
		if t.Failed() {
			t.Fatalf("seed %d, at the end", seed)
		}
	}
	for _, what := range []string{"again", "Restore", "Commit", "laid", "Compact", "terms"} {
		if seen[what] < 2000 {
			t.Errorf("%s: %d times", what, seen[what])
		}
	}
}
