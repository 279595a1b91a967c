package raft

import "penstock/api"

// Step takes a message.
func (r *Raft) Step(m api.RMsg) {
	if r == nil || m.To != r.id || m.From == r.id || m.From < 0 || m.From >= r.n || m.Term < 0 {
		return
	}
	switch m.Kind {
	case api.RPreVote:
		r.takePreVote(m)
	case api.RPreVoted:
		r.takePreVoted(m)
	default:
		r.takeOfTerm(m)
	}
}

// takePreVote answers whether it would vote; it doesn't while it hears a leader.
func (r *Raft) takePreVote(m api.RMsg) {
	alone := r.role != api.Leader && (r.leader == nobody || r.ticks >= patience)
	if m.Term > r.hard.Term && r.asNew(m) && alone {
		r.answer(m, api.RMsg{Kind: api.RPreVoted, Term: m.Term})
		return
	}
	r.answer(m, api.RMsg{Kind: api.RPreVoted, Term: r.hard.Term, Reject: true})
}

func (r *Raft) takePreVoted(m api.RMsg) {
	if m.Reject {
		r.followNewer(m)
		return
	}
	if r.role == api.PreCandidate && m.Term == r.hard.Term+1 {
		r.count(m.From)
	}
}

// takeOfTerm takes a message whose sender is in the term that it names.
func (r *Raft) takeOfTerm(m api.RMsg) {
	r.followNewer(m)
	if m.Term < r.hard.Term {
		r.refuseOld(m)
		return
	}
	switch m.Kind {
	case api.RVote:
		r.takeVote(m)
	case api.RVoted:
		if r.role == api.Candidate && !m.Reject {
			r.count(m.From)
		}
	case api.RAppend:
		if r.role != api.Leader {
			r.hear(m)
			r.takeAppend(m)
		}
	case api.RSnap:
		if r.role != api.Leader {
			r.hear(m)
			r.takeSnap(m)
		}
	case api.RAppended:
		if r.role == api.Leader && m.Index >= 0 && m.Index <= r.last() {
			r.takeAppended(m)
		}
	}
}

// followNewer takes up a message's term, if that is greater; who leads it isn't known yet.
func (r *Raft) followNewer(m api.RMsg) {
	if m.Term > r.hard.Term {
		r.follow(m.Term, nobody)
	}
}

// refuseOld lets one who still leads an older term know of its end.
func (r *Raft) refuseOld(m api.RMsg) {
	if m.Kind == api.RAppend || m.Kind == api.RSnap {
		r.answerAppend(m, r.last(), true)
	}
}

func (r *Raft) takeVote(m api.RMsg) {
	free := r.hard.Vote == nobody || r.hard.Vote == m.From
	if !free || !r.asNew(m) {
		r.answer(m, api.RMsg{Kind: api.RVoted, Term: r.hard.Term, Reject: true})
		return
	}
	if r.hard.Vote != m.From {
		r.hard.Vote = m.From
		r.save = true
	}
	r.ticks = 0
	r.answer(m, api.RMsg{Kind: api.RVoted, Term: r.hard.Term})
}

// hear knows the sender for the term's leader.
func (r *Raft) hear(m api.RMsg) {
	r.follow(m.Term, m.From)
	r.ticks = 0
}

func (r *Raft) takeAppend(m api.RMsg) {
	m, ok := r.fromBaseOn(m)
	if !ok {
		// What is committed is the same on both, whatever else is.
		r.answerAppend(m, r.commit, false)
		return
	}
	if term, ok := r.termOf(m.Index); !ok || term != m.LogTerm {
		r.answerAppend(m, max(min(m.Index-1, r.last()), r.commit), true)
		return
	}
	if !r.layRow(m.Index, m.Entries) {
		return
	}
	end := m.Index + len(m.Entries)
	r.commit = max(r.commit, min(m.Commit, end))
	r.answerAppend(m, end, false)
}

// fromBaseOn is the message without the entries that the snapshot stands for; false: it doesn't come as far as Base.
func (r *Raft) fromBaseOn(m api.RMsg) (api.RMsg, bool) {
	if m.Index >= r.hard.Base {
		return m, true
	}
	if m.Index < 0 || len(m.Entries) < r.hard.Base-m.Index {
		return m, false
	}
	m.Entries = m.Entries[r.hard.Base-m.Index:]
	m.Index, m.LogTerm = r.hard.Base, r.hard.BaseTerm
	return m, true
}

func (r *Raft) takeSnap(m api.RMsg) {
	if m.Index > r.commit {
		r.standFor(m.Index, m.LogTerm, m.Snap)
		r.commit, r.told = m.Index, m.Index
		r.restore = true
	}
	r.answerAppend(m, r.commit, false)
}

// takeAppended takes a follower's answer, which may be late: only what tells more than is known counts.
func (r *Raft) takeAppended(m api.RMsg) {
	from := m.From
	if m.Reject {
		if m.Index >= r.match[from] && m.Index+1 < r.next[from] {
			r.next[from] = m.Index + 1
			r.feed(from)
		}
		return
	}
	if m.Index <= r.match[from] {
		return
	}
	r.match[from] = m.Index
	r.next[from] = max(r.next[from], m.Index+1)
	had := r.commit
	r.lookAtCommits()
	if r.commit > had {
		r.feedOthers()
	} else if r.next[from] <= r.last() {
		r.feed(from)
	}
}

// answer sends a message to the one that another came from.
func (r *Raft) answer(m, back api.RMsg) {
	back.From, back.To = r.id, m.From
	r.msgs = append(r.msgs, back)
}

func (r *Raft) answerAppend(m api.RMsg, index int, reject bool) {
	r.answer(m, api.RMsg{Kind: api.RAppended, Term: r.hard.Term, Index: index, Reject: reject})
}
