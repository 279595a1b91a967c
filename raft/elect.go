package raft

import (
	"bytes"

	"penstock/api"
)

// follow takes up a term, if it is greater than one's own, and a leader.
func (r *Raft) follow(term, leader int) {
	if term > r.hard.Term {
		r.hard.Term, r.hard.Vote = term, nobody
		r.save = true
	}
	r.role, r.leader = api.Follower, leader
}

// askAhead asks whether it would be elected: the term rises only if it would, so that one who was away disturbs nobody.
func (r *Raft) askAhead() {
	r.role = api.PreCandidate
	r.ask(api.RPreVote, r.hard.Term+1)
}

// stand asks for votes in a new term.
func (r *Raft) stand() {
	r.hard.Term++
	r.hard.Vote = r.id
	r.save = true
	r.role = api.Candidate
	r.ask(api.RVote, r.hard.Term)
}

// ask begins with one's own vote alone, and asks all others for theirs.
func (r *Raft) ask(kind, term int) {
	r.leader = nobody
	r.votes = map[int]struct{}{}
	for to := range r.n {
		if to != r.id {
			r.msgs = append(r.msgs, api.RMsg{Kind: kind, From: r.id, To: to, Term: term, Index: r.last(), LogTerm: r.lastTerm()})
		}
	}
	r.count(r.id)
}

// count counts a vote, and goes on if more than half of all nodes have voted.
func (r *Raft) count(from int) {
	r.votes[from] = struct{}{}
	if 2*len(r.votes) <= r.n {
		return
	}
	switch r.role {
	case api.PreCandidate:
		r.stand()
	case api.Candidate:
		r.lead()
	}
}

// lead begins with an entry of its own term, without which those of older terms are never committed.
func (r *Raft) lead() {
	r.role, r.leader = api.Leader, r.id
	for i := range r.n {
		r.next[i], r.match[i] = r.last()+1, 0
	}
	r.lay(nil)
	r.feedOthers()
}

// feedOthers feeds all others.
func (r *Raft) feedOthers() {
	for to := range r.n {
		if to != r.id {
			r.feed(to)
		}
	}
}

// feed sends a node what comes next there: entries, or the snapshot if they are gone.
func (r *Raft) feed(to int) {
	m := api.RMsg{From: r.id, To: to, Term: r.hard.Term, Commit: r.commit}
	ahead := r.next[to] - 1
	if ahead >= r.hard.Base {
		m.Kind, m.Index = api.RAppend, ahead
		m.LogTerm, _ = r.termOf(ahead)
		m.Entries = ownEntries(r.behind(ahead, maxFeed))
	} else {
		m.Kind, m.Index, m.LogTerm = api.RSnap, r.hard.Base, r.hard.BaseTerm
		m.Snap = bytes.Clone(r.hard.Snap)
	}
	r.msgs = append(r.msgs, m)
}
