package raft

import (
	"fmt"
	"strconv"
	"testing"

	"penstock/api"
)

// state is what State tells.
type state struct{ role, term, leader, commit, last int }

func stateOf(r *Raft) state {
	role, term, leader, commit, last := r.State()
	return state{role, term, leader, commit, last}
}

func wantState(t *testing.T, what string, r *Raft, want state) {
	t.Helper()
	if got := stateOf(r); got != want {
		t.Errorf("%s: State() = %+v, want %+v", what, got, want)
	}
}

// told is all of a Ready as a text, in which a nil list and an empty one are one.
func told(x api.Ready) string {
	return fmt.Sprintf("%+v", x)
}

func wantTaken(t *testing.T, what string, r *Raft, want api.Ready) {
	t.Helper()
	if got := told(r.Take()); got != told(want) {
		t.Errorf("%s: Take() =\n%s, want\n%s", what, got, told(want))
	}
}

// wantMsgs: these are to be sent, and nothing else is to be done.
func wantMsgs(t *testing.T, what string, r *Raft, want ...api.RMsg) {
	t.Helper()
	wantTaken(t, what, r, api.Ready{Msgs: want})
}

// wantSaved: Hard is to be kept, as it is told, and these are to be sent.
func wantSaved(t *testing.T, what string, r *Raft, hard api.Hard, want ...api.RMsg) {
	t.Helper()
	wantTaken(t, what, r, api.Ready{Save: true, Hard: hard, Msgs: want})
}

func newNode(t *testing.T, id, n int, kept api.Hard) *Raft {
	t.Helper()
	r, e := New(id, n, kept)
	if r == nil || e != api.OK {
		t.Fatalf("New(%d, %d, %+v) = %v, %d", id, n, kept, r, e)
	}
	return r
}

// fresh is what one has that never kept anything.
func fresh() api.Hard {
	return api.Hard{Vote: -1}
}

// logOf are entries of these terms, behind base; their data tell their numbers.
func logOf(base int, terms ...int) []api.Entry {
	var list []api.Entry
	for i, term := range terms {
		list = append(list, api.Entry{Term: term, Data: []byte("e" + strconv.Itoa(base+1+i))})
	}
	return list
}

// hardOf has no snapshot, and no vote.
func hardOf(term int, terms ...int) api.Hard {
	return api.Hard{Term: term, Vote: -1, Log: logOf(0, terms...)}
}

// snapOf has a snapshot up to base, and no vote.
func snapOf(term, base, baseTerm int, terms ...int) api.Hard {
	return api.Hard{Term: term, Vote: -1, Base: base, BaseTerm: baseTerm, Snap: []byte("snap"), Log: logOf(base, terms...)}
}

func ticks(r *Raft, count int) {
	for range count {
		r.Tick(0)
	}
}

// pre, candidate and leader are the node 0 of n, with what it kept, in that role; all that it wanted done by then is taken.
func pre(t *testing.T, n int, kept api.Hard) *Raft {
	t.Helper()
	r := newNode(t, 0, n, kept)
	ticks(r, 4)
	r.Take()
	return r
}

func candidate(t *testing.T, n int, kept api.Hard) *Raft {
	t.Helper()
	r := pre(t, n, kept)
	for from := 1; from <= n/2; from++ {
		r.Step(api.RMsg{Kind: api.RPreVoted, From: from, Term: kept.Term + 1})
	}
	r.Take()
	return r
}

func leader(t *testing.T, n int, kept api.Hard) *Raft {
	t.Helper()
	r := candidate(t, n, kept)
	for from := 1; from <= n/2; from++ {
		r.Step(api.RMsg{Kind: api.RVoted, From: from, Term: kept.Term + 1})
	}
	r.Take()
	if got := stateOf(r); got.role != api.Leader || got.term != kept.Term+1 {
		t.Fatalf("it doesn't lead: %+v", got)
	}
	return r
}

// inRoles are nodes 0 of three in every role, of the term 3, which know no leader if they don't lead, and the number of the last entry of each.
func inRoles(t *testing.T) map[int]*Raft {
	t.Helper()
	return map[int]*Raft{
		api.Follower:     newNode(t, 0, 3, hardOf(3, 1, 2)),
		api.PreCandidate: pre(t, 3, hardOf(3, 1, 2)),
		api.Candidate:    candidate(t, 3, hardOf(2, 1, 2)),
		api.Leader:       leader(t, 3, hardOf(2, 1, 2)),
	}
}

// propose lays data that tell their number.
func propose(t *testing.T, r *Raft, count int) {
	t.Helper()
	for range count {
		number := stateOf(r).last + 1
		if got, e := r.Propose([]byte("e" + strconv.Itoa(number))); got != number || e != api.OK {
			t.Fatalf("Propose = %d, %d, want %d", got, e, number)
		}
	}
}

// have tells a leader that a node has all up to an index.
func have(r *Raft, from, index int) {
	r.Step(api.RMsg{Kind: api.RAppended, From: from, Term: stateOf(r).term, Index: index})
}
