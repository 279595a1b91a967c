package raft

import (
	"bytes"
	"math/rand"
	"slices"
	"testing"

	"penstock/api"
)

// model is a node by the chapter's words, in the plainest way: entries by their numbers, and what is to be told is noted when it comes up.
type model struct {
	id, n                int
	term, vote           int
	base, baseTerm, last int
	snap                 []byte
	entries              map[int]api.Entry
	role, leader, commit int
	ticks, limit         int
	voted                []int
	next, match          map[int]int
	told                 int
	ready                api.Ready
}

func modelOf(id, n int, kept api.Hard) *model {
	m := &model{id: id, n: n, term: kept.Term, vote: kept.Vote, base: kept.Base, baseTerm: kept.BaseTerm, snap: kept.Snap}
	m.entries = map[int]api.Entry{}
	m.last = m.base
	for _, e := range kept.Log {
		m.last++
		m.entries[m.last] = e
	}
	m.leader, m.limit, m.commit, m.told = -1, 4, m.base, m.base
	if m.base > 0 {
		m.ready.Restore, m.ready.Snap = true, m.snap
	}
	return m
}

func (m *model) state() state {
	return state{m.role, m.term, m.leader, m.commit, m.last}
}

// term of the entry, Base counted as one; -99 of one that there isn't.
func (m *model) termAt(number int) int {
	if number == m.base {
		return m.baseTerm
	}
	if e, ok := m.entries[number]; ok {
		return e.Term
	}
	return -99
}

func (m *model) hard() api.Hard {
	h := api.Hard{Term: m.term, Vote: m.vote, Base: m.base, BaseTerm: m.baseTerm, Snap: m.snap}
	for i := m.base + 1; i <= m.last; i++ {
		h.Log = append(h.Log, m.entries[i])
	}
	return h
}

func (m *model) send(x api.RMsg) {
	x.From = m.id
	m.ready.Msgs = append(m.ready.Msgs, x)
}

func (m *model) keep() { m.ready.Save = true }

func (m *model) others() []int {
	return slices.DeleteFunc([]int{0, 1, 2, 3, 4}[:m.n], func(i int) bool { return i == m.id })
}

func (m *model) follow(term, leader int) {
	if term > m.term {
		m.term, m.vote = term, -1
		m.keep()
	}
	m.role, m.leader = api.Follower, leader
}

func (m *model) feed(to int) {
	if m.next[to]-1 < m.base {
		m.send(api.RMsg{Kind: api.RSnap, To: to, Term: m.term, Index: m.base, LogTerm: m.baseTerm, Commit: m.commit, Snap: m.snap})
		return
	}
	x := api.RMsg{Kind: api.RAppend, To: to, Term: m.term, Index: m.next[to] - 1, LogTerm: m.termAt(m.next[to] - 1), Commit: m.commit}
	for i := m.next[to]; i <= m.last && len(x.Entries) < 16; i++ {
		x.Entries = append(x.Entries, m.entries[i])
	}
	m.send(x)
}

func (m *model) feedOthers() {
	for _, to := range m.others() {
		m.feed(to)
	}
}

func (m *model) tick(draw uint64) {
	if m.role == api.Leader {
		m.feedOthers()
		return
	}
	m.ticks++
	if m.ticks != m.limit {
		return
	}
	m.ticks, m.limit = 0, []int{4, 5, 6, 7}[draw%4]
	m.role, m.leader, m.voted = api.PreCandidate, -1, []int{m.id}
	for _, to := range m.others() {
		m.send(api.RMsg{Kind: api.RPreVote, To: to, Term: m.term + 1, Index: m.last, LogTerm: m.termAt(m.last)})
	}
	m.counts()
}

func (m *model) vote1(from int) {
	if !slices.Contains(m.voted, from) {
		m.voted = append(m.voted, from)
	}
	m.counts()
}

func (m *model) counts() {
	if len(m.voted) < m.n/2+1 {
		return
	}
	if m.role == api.PreCandidate {
		m.role, m.leader, m.voted = api.Candidate, -1, []int{m.id}
		m.term++
		m.vote = m.id
		m.keep()
		for _, to := range m.others() {
			m.send(api.RMsg{Kind: api.RVote, To: to, Term: m.term, Index: m.last, LogTerm: m.termAt(m.last)})
		}
		m.counts()
		return
	}
	m.role, m.leader = api.Leader, m.id
	m.next, m.match = map[int]int{}, map[int]int{}
	for i := range m.n {
		m.next[i] = m.last + 1
	}
	m.lay(nil)
	m.feedOthers()
}

func (m *model) lay(data []byte) {
	m.last++
	m.entries[m.last] = api.Entry{Term: m.term, Data: data}
	m.keep()
	m.match[m.id] = m.last
	m.look()
}

func (m *model) look() {
	for number := m.last; number > m.commit && m.entries[number].Term == m.term; number-- {
		have := 0
		for i := range m.n {
			if m.match[i] >= number {
				have++
			}
		}
		if have*2 > m.n {
			m.commitTo(number)
			return
		}
	}
}

func (m *model) commitTo(number int) {
	for m.commit < number {
		m.commit++
		m.ready.Commits = append(m.ready.Commits, api.Commit{Index: m.commit, Data: m.entries[m.commit].Data})
	}
}

func (m *model) propose(data []byte) (int, api.Errno) {
	if m.role != api.Leader {
		return 0, api.ErrLeader
	}
	if len(data) > 4096 {
		return 0, api.ErrLong
	}
	if m.last-m.commit > 63 {
		return 0, api.ErrFull
	}
	m.lay(data)
	m.feedOthers()
	return m.last, api.OK
}

func (m *model) asNew(x api.RMsg) bool {
	mine := m.termAt(m.last)
	return x.LogTerm > mine || x.LogTerm == mine && x.Index >= m.last
}

func (m *model) step(x api.RMsg) {
	if x.To != m.id || !slices.Contains(m.others(), x.From) || x.Term < 0 {
		return
	}
	switch {
	case x.Kind == api.RPreVote:
		if x.Term > m.term && m.asNew(x) && m.role != api.Leader && (m.leader == -1 || m.ticks >= 4) {
			m.send(api.RMsg{Kind: api.RPreVoted, To: x.From, Term: x.Term})
		} else {
			m.send(api.RMsg{Kind: api.RPreVoted, To: x.From, Term: m.term, Reject: true})
		}
	case x.Kind == api.RPreVoted && x.Reject:
		if x.Term > m.term {
			m.follow(x.Term, -1)
		}
	case x.Kind == api.RPreVoted:
		if m.role == api.PreCandidate && x.Term-m.term == 1 {
			m.vote1(x.From)
		}
	default:
		if x.Term > m.term {
			m.follow(x.Term, -1)
		}
		if x.Term == m.term {
			m.stepOfTerm(x)
		} else if x.Kind == api.RAppend || x.Kind == api.RSnap {
			m.appended(x, m.last, true)
		}
	}
}

func (m *model) appended(x api.RMsg, index int, reject bool) {
	m.send(api.RMsg{Kind: api.RAppended, To: x.From, Term: m.term, Index: index, Reject: reject})
}

func (m *model) stepOfTerm(x api.RMsg) {
	switch x.Kind {
	case api.RVote:
		if m.vote != -1 && m.vote != x.From || !m.asNew(x) {
			m.send(api.RMsg{Kind: api.RVoted, To: x.From, Term: m.term, Reject: true})
			return
		}
		if m.vote == -1 {
			m.keep()
		}
		m.vote, m.ticks = x.From, 0
		m.send(api.RMsg{Kind: api.RVoted, To: x.From, Term: m.term})
	case api.RVoted:
		if m.role == api.Candidate && !x.Reject {
			m.vote1(x.From)
		}
	case api.RAppend, api.RSnap:
		if m.role == api.Leader {
			return
		}
		m.follow(x.Term, x.From)
		m.ticks = 0
		if x.Kind == api.RAppend {
			m.appendRow(x)
		} else {
			m.install(x)
		}
	case api.RAppended:
		if m.role == api.Leader && x.Index >= 0 && x.Index <= m.last {
			m.answered(x)
		}
	}
}

func (m *model) appendRow(x api.RMsg) {
	if x.Index < 0 {
		m.appended(x, m.commit, false)
		return
	}
	row := map[int]api.Entry{}
	end := x.Index
	for _, e := range x.Entries {
		end++
		row[end] = e
	}
	begin, term := x.Index, x.LogTerm
	if begin < m.base {
		if end < m.base {
			m.appended(x, m.commit, false)
			return
		}
		begin, term = m.base, m.baseTerm
	}
	if begin > m.last || m.termAt(begin) != term {
		back := begin - 1
		if m.last < back {
			back = m.last
		}
		if m.commit > back {
			back = m.commit
		}
		m.appended(x, back, true)
		return
	}
	for i := begin + 1; i <= end; i++ {
		if i <= m.last && m.termAt(i) == row[i].Term {
			continue
		}
		if i <= m.commit {
			return
		}
		for ; m.last >= i; m.last-- {
			delete(m.entries, m.last)
		}
		m.last = i
		m.entries[i] = row[i]
		m.keep()
	}
	m.commitTo(min(x.Commit, end))
	m.appended(x, end, false)
}

func (m *model) install(x api.RMsg) {
	if x.Index <= m.commit {
		m.appended(x, m.commit, false)
		return
	}
	stays := x.Index <= m.last && m.termAt(x.Index) == x.LogTerm
	for i := range m.entries {
		if i <= x.Index || !stays {
			delete(m.entries, i)
		}
	}
	if !stays {
		m.last = x.Index
	}
	m.base, m.baseTerm, m.snap = x.Index, x.LogTerm, x.Snap
	m.commit, m.told = x.Index, x.Index
	m.keep()
	m.ready.Restore, m.ready.Snap, m.ready.Commits = true, x.Snap, nil
	m.appended(x, x.Index, false)
}

func (m *model) answered(x api.RMsg) {
	match, next := m.match[x.From], m.next[x.From]
	switch {
	case x.Reject:
		if x.Index >= match && x.Index+1 < next {
			m.next[x.From] = x.Index + 1
			m.feed(x.From)
		}
	case x.Index > match:
		m.match[x.From] = x.Index
		if next <= x.Index {
			m.next[x.From] = x.Index + 1
		}
		had := m.commit
		m.look()
		if m.commit != had {
			m.feedOthers()
		} else if m.next[x.From] <= m.last {
			m.feed(x.From)
		}
	}
}

func (m *model) take() api.Ready {
	x := m.ready
	if x.Save {
		x.Hard = m.hard()
	}
	m.ready, m.told = api.Ready{}, m.commit
	return x
}

func (m *model) compact(index int, snap []byte) api.Errno {
	if index <= m.base || index > m.told {
		return api.ErrArg
	}
	m.baseTerm = m.entries[index].Term
	for ; m.base < index; m.base++ {
		delete(m.entries, m.base+1)
	}
	m.snap = snap
	m.keep()
	return api.OK
}

// run is a drawn row of calls, to a node and its model.
type run struct {
	t    *testing.T
	draw *rand.Rand
	r    *Raft
	m    *model
	seen map[string]int // what has come up how often
}

func (x *run) about(numbers ...int) int {
	return numbers[x.draw.Intn(len(numbers))] + x.draw.Intn(3) - 1
}

func (x *run) data() []byte {
	return []byte{byte(x.draw.Intn(256))}
}

// row is entries as the node may have them behind an index, with another term now and then.
func (x *run) row(index, count int) []api.Entry {
	var list []api.Entry
	for i := range count {
		e := api.Entry{Term: x.m.term, Data: x.data()}
		if own, ok := x.m.entries[index+1+i]; ok && x.draw.Intn(8) > 0 {
			e = own
		}
		list = append(list, e)
	}
	return list
}

// message is one that may come, or nearly.
func (x *run) message() api.RMsg {
	m := x.m
	msg := api.RMsg{
		Kind: x.draw.Intn(9), From: x.draw.Intn(m.n), To: m.id, Term: m.term, Reject: x.draw.Intn(3) == 0,
		Index: x.about(m.base, m.commit, m.last, 1), LogTerm: x.about(m.termAt(m.last), m.term),
		Commit: x.about(m.commit, m.last, 1), Snap: x.data(),
	}
	if x.draw.Intn(3) > 0 { // what one in its role waits for
		msg.Kind = []int{api.RAppend, api.RPreVoted, api.RVoted, api.RAppended}[m.role]
	}
	switch x.draw.Intn(12) {
	case 0:
		msg.Term += x.draw.Intn(5) - 2
	case 1:
		msg.From = x.draw.Intn(m.n+2) - 1
	case 2:
		msg.To = x.draw.Intn(m.n)
	}
	if (msg.Kind == api.RPreVoted || msg.Kind == api.RPreVote) && x.draw.Intn(4) > 0 {
		msg.Term++
	}
	if msg.Kind == api.RAppend && x.draw.Intn(5) > 0 {
		msg.LogTerm = m.termAt(msg.Index)
	}
	if msg.Kind == api.RAppend || x.draw.Intn(10) == 0 {
		msg.Entries = x.row(msg.Index, x.draw.Intn(5))
	}
	return msg
}

// call is one call to both.
func (x *run) call() {
	x.t.Helper()
	switch x.draw.Intn(12) {
	case 0, 1, 2:
		draw := x.draw.Uint64()
		x.r.Tick(draw)
		x.m.tick(draw)
	case 3:
		data := x.data()
		if x.draw.Intn(9) == 0 {
			data = make([]byte, 4095+x.draw.Intn(3))
		}
		got, e := x.r.Propose(data)
		if want, f := x.m.propose(data); got != want || e != f {
			x.t.Errorf("Propose = %d, %d, want %d, %d", got, e, want, f)
		} else {
			x.seen["Propose "+[]string{"ok", "", "long", "full"}[min(e, 3)]]++
		}
	case 4:
		index, snap := x.about(x.m.base, x.m.told, x.m.commit), x.data()
		e := x.r.Compact(index, snap)
		if want := x.m.compact(index, snap); e != want {
			x.t.Errorf("Compact(%d) = %d, want %d", index, e, want)
		} else if e == api.OK {
			x.seen["Compact"]++
		}
	case 5, 6:
		x.take()
	default:
		msg := x.message()
		x.r.Step(msg)
		x.m.step(msg)
	}
	if got := stateOf(x.r); got != x.m.state() {
		x.t.Errorf("State() = %+v, want %+v", got, x.m.state())
	}
	x.seen[[]string{"Follower", "PreCandidate", "Candidate", "Leader"}[x.m.role]]++
}

func (x *run) take() {
	x.t.Helper()
	got, want := x.r.Take(), x.m.take()
	if told(got) != told(want) {
		x.t.Errorf("Take() =\n%s, want\n%s", told(got), told(want))
	}
	// If the node had kept a part of what it has answered the next answers would show it.
	scribble(got)
	if want.Restore {
		x.seen["Restore"]++
	}
	if len(want.Commits) > 1 {
		x.seen["Commits"]++
	}
	for _, msg := range want.Msgs {
		name := []string{"", "RPreVote", "RPreVoted", "RVote", "RVoted", "RAppend", "RAppended", "RSnap"}[msg.Kind]
		if msg.Reject {
			name += " Reject"
		}
		if len(msg.Entries) == 16 {
			name += " 16"
		}
		x.seen[name]++
	}
}

// keptBefore is something that one may have kept.
func keptBefore(draw *rand.Rand) api.Hard {
	kept := api.Hard{Term: draw.Intn(4), Vote: -1}
	if draw.Intn(2) == 0 {
		kept.Base, kept.Snap = draw.Intn(4), []byte("kept")
		kept.BaseTerm = min(kept.Base, kept.Term)
	}
	term := kept.BaseTerm
	for range draw.Intn(6) * draw.Intn(6) {
		term = min(kept.Term, term+draw.Intn(2))
		kept.Log = append(kept.Log, api.Entry{Term: term, Data: []byte{byte(draw.Intn(256))}})
	}
	return kept
}

// TestDrawnCalls holds a node against the model.
func TestDrawnCalls(t *testing.T) {
	seen := map[string]int{}
	for seed := range 800 {
		draw := rand.New(rand.NewSource(int64(seed)))
		n := 1 + seed%5
		id := draw.Intn(n)
		kept := keptBefore(draw)
		x := &run{t, draw, newNode(t, id, n, kept), modelOf(id, n, kept), seen}
		for number := range 300 {
			x.call()
			if t.Failed() {
				t.Fatalf("seed %d, call %d", seed, number)
			}
		}
		x.take()
	}
	for _, what := range []string{
		"Follower", "PreCandidate", "Candidate", "Leader", "Propose ok", "Propose long", "Propose full", "Compact", "Restore", "Commits",
		"RPreVote", "RPreVoted", "RPreVoted Reject", "RVote", "RVoted", "RVoted Reject", "RAppend", "RAppend 16", "RAppended", "RAppended Reject", "RSnap",
	} {
		if seen[what] < 20 {
			t.Errorf("%s was drawn %d times", what, seen[what])
		}
	}
}

// TestDrawnCallsChangeNothingHanded: not even when all that is answered is written over, nor the room behind a list.
func TestDrawnCallsChangeNothingHanded(t *testing.T) {
	draw := rand.New(rand.NewSource(12))
	for range 200 {
		kept := keptBefore(draw)
		x := &run{t, draw, newNode(t, 0, 3, kept), modelOf(0, 3, kept), map[string]int{}}
		for range 100 {
			msg := x.message()
			room := append(msg.Entries, api.Entry{Term: 77}, api.Entry{Term: 77})
			msg.Entries = room[:len(msg.Entries)]
			was := told(api.Ready{Msgs: []api.RMsg{msg, {Entries: room}}, Hard: kept})
			x.r.Step(msg)
			x.m.step(msg)
			if draw.Intn(3) == 0 {
				x.r.Tick(draw.Uint64())
			}
			scribble(x.r.Take())
			if got := told(api.Ready{Msgs: []api.RMsg{msg, {Entries: room}}, Hard: kept}); got != was {
				t.Fatalf("a Step has changed\n%s to\n%s", was, got)
			}
		}
	}
}

// scribble writes over all that was answered.
func scribble(x api.Ready) {
	over := func(b []byte) { copy(b, bytes.Repeat([]byte{'!'}, len(b))) }
	entries := func(list []api.Entry) {
		for i := range list {
			over(list[i].Data)
			list[i] = api.Entry{Term: -5}
		}
	}
	over(x.Snap)
	over(x.Hard.Snap)
	entries(x.Hard.Log)
	for i := range x.Commits {
		over(x.Commits[i].Data)
		x.Commits[i] = api.Commit{}
	}
	for i := range x.Msgs {
		over(x.Msgs[i].Snap)
		entries(x.Msgs[i].Entries)
		x.Msgs[i] = api.RMsg{}
	}
}
