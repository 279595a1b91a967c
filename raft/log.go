package raft

import (
	"bytes"
	"slices"

	"penstock/api"
)

// last is the number of the last entry.
func (r *Raft) last() int {
	return r.hard.Base + len(r.hard.Log)
}

// lastTerm is the term of the last entry.
func (r *Raft) lastTerm() int {
	term, _ := r.termOf(r.last())
	return term
}

// termOf is the term of an entry, Base counted as one; false: there is none.
func (r *Raft) termOf(number int) (int, bool) {
	// How far it is behind Base tells more than the number, which may have gone round.
	far := number - r.hard.Base
	switch {
	case far == 0:
		return r.hard.BaseTerm, true
	case far < 0 || far > len(r.hard.Log):
		return 0, false
	}
	return r.hard.Log[far-1].Term, true
}

// behind are the entries behind one, which isn't ahead of Base nor behind the last, and no more than so many; the node's own, not to be handed out.
func (r *Raft) behind(number, most int) []api.Entry {
	list := r.hard.Log[number-r.hard.Base:]
	return list[:min(most, len(list))]
}

// asNew tells whether a log that ends as the message says is as new as one's own.
func (r *Raft) asNew(m api.RMsg) bool {
	term := r.lastTerm()
	return m.LogTerm > term || m.LogTerm == term && m.Index >= r.last()
}

// lay lays an entry of the leader's own.
func (r *Raft) lay(data []byte) {
	r.put(api.Entry{Term: r.hard.Term, Data: data})
	r.match[r.id] = r.last()
	r.lookAtCommits()
}

// put lays an entry behind the last.
func (r *Raft) put(e api.Entry) {
	r.hard.Log = append(r.hard.Log, ownEntry(e))
	r.save = true
}

// cut lets the entries go from a number on, which is behind Base.
func (r *Raft) cut(number int) {
	left := number - r.hard.Base - 1
	// Delete clears the room that gets free, so that nothing that is gone is held there.
	r.hard.Log = slices.Delete(r.hard.Log, left, len(r.hard.Log))
}

// layRow lays the entries behind a number that aren't there yet; false: one of them would take the place of another that is committed.
func (r *Raft) layRow(number int, list []api.Entry) bool {
	for _, e := range list {
		number++
		if term, ok := r.termOf(number); ok && term == e.Term {
			continue
		}
		if number <= r.commit {
			return false
		}
		r.cut(number)
		r.put(e)
	}
	return true
}

// standFor puts a snapshot in the place of all up to a number; what is behind it stays, if its entry there is of that term.
func (r *Raft) standFor(number, term int, snap []byte) {
	kept := 0
	if own, ok := r.termOf(number); ok && own == term {
		kept = r.last() - number
	}
	r.hard.Log = slices.Delete(r.hard.Log, 0, len(r.hard.Log)-kept)
	r.hard.Base, r.hard.BaseTerm, r.hard.Snap = number, term, bytes.Clone(snap)
	r.save = true
}

// lookAtCommits raises commit to what more than half of all nodes have, if nothing of another term is there or behind it: an older entry that they have may still be overruled.
func (r *Raft) lookAtCommits() {
	had := r.match
	slices.Sort(had[:r.n])
	most := had[(r.n-1)/2]
	if most > r.commit && r.allOwn(most) {
		r.commit = most
	}
}

// allOwn tells whether an entry and all behind it are of one's own term.
func (r *Raft) allOwn(number int) bool {
	for _, e := range r.behind(number-1, len(r.hard.Log)) {
		if e.Term != r.hard.Term {
			return false
		}
	}
	return true
}
