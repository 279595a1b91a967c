package raft

import (
	"bytes"
	"math"
	"slices"
	"strconv"
	"testing"

	"penstock/api"
)

// The chapter's examples.

func TestExampleOfOne(t *testing.T) {
	r := newNode(t, 0, 1, fresh())
	ticks(r, 3)
	wantState(t, "three ticks", r, state{api.Follower, 0, -1, 0, 0})
	r.Tick(0)
	wantState(t, "four ticks", r, state{api.Leader, 1, 0, 1, 1})
	first := api.Entry{Term: 1}
	wantTaken(t, "four ticks", r, api.Ready{Save: true, Hard: api.Hard{Term: 1, Log: []api.Entry{first}}, Commits: []api.Commit{{Index: 1}}})
	if number, e := r.Propose([]byte("a")); number != 2 || e != api.OK {
		t.Errorf("Propose = %d, %d", number, e)
	}
	wantState(t, "proposed", r, state{api.Leader, 1, 0, 2, 2})
	wantTaken(t, "proposed", r, api.Ready{
		Save: true, Hard: api.Hard{Term: 1, Log: []api.Entry{first, {Term: 1, Data: []byte("a")}}},
		Commits: []api.Commit{{Index: 2, Data: []byte("a")}},
	})
}

func TestExampleOfThree(t *testing.T) {
	r := newNode(t, 0, 3, fresh())
	ticks(r, 3)
	wantMsgs(t, "three ticks", r)
	r.Tick(0)
	wantState(t, "the fourth tick", r, state{api.PreCandidate, 0, -1, 0, 0})
	wantMsgs(t, "the fourth tick", r, api.RMsg{Kind: api.RPreVote, To: 1, Term: 1}, api.RMsg{Kind: api.RPreVote, To: 2, Term: 1})
	r.Step(api.RMsg{Kind: api.RPreVoted, From: 1, Term: 1})
	wantState(t, "an RPreVoted", r, state{api.Candidate, 1, -1, 0, 0})
	wantSaved(t, "an RPreVoted", r, api.Hard{Term: 1}, api.RMsg{Kind: api.RVote, To: 1, Term: 1}, api.RMsg{Kind: api.RVote, To: 2, Term: 1})
	r.Step(api.RMsg{Kind: api.RVoted, From: 2, Term: 1})
	wantState(t, "an RVoted", r, state{api.Leader, 1, 0, 0, 1})
	row := []api.Entry{{Term: 1}}
	wantSaved(t, "an RVoted", r, api.Hard{Term: 1, Log: row},
		api.RMsg{Kind: api.RAppend, To: 1, Term: 1, Entries: row}, api.RMsg{Kind: api.RAppend, To: 2, Term: 1, Entries: row})
}

// P12.1: New and State.

func TestNewRefuses(t *testing.T) {
	for _, x := range []struct {
		what  string
		id, n int
		kept  api.Hard
	}{
		{"no node", 0, 0, fresh()},
		{"fewer than none", 0, -1, fresh()},
		{"the least", 0, math.MinInt, fresh()},
		{"too many nodes", 0, 6, fresh()},
		{"the most", 0, math.MaxInt, fresh()},
		{"a number below 0", -1, 3, fresh()},
		{"the least number", math.MinInt, 3, fresh()},
		{"a number that is none's", 3, 3, fresh()},
		{"a number that is none's", 1, 1, fresh()},
		{"the greatest number", math.MaxInt, 5, fresh()},
		{"a Term below 0", 0, 3, api.Hard{Term: -1, Vote: -1}},
		{"the least Term", 0, 3, api.Hard{Term: math.MinInt, Vote: -1}},
		{"a Base below 0", 0, 3, api.Hard{Vote: -1, Base: -1}},
		{"the least Base", 0, 3, api.Hard{Vote: -1, Base: math.MinInt}},
		{"a Vote below -1", 0, 3, api.Hard{Vote: -2}},
		{"the least Vote", 0, 3, api.Hard{Vote: math.MinInt}},
		{"a Vote that is none's", 0, 3, api.Hard{Vote: 3}},
		{"a Vote that is none's", 0, 1, api.Hard{Vote: 1}},
		{"the greatest Vote", 0, 5, api.Hard{Vote: math.MaxInt}},
	} {
		if r, e := New(x.id, x.n, x.kept); r != nil || e != api.ErrArg {
			t.Errorf("%s: New = %v, %d", x.what, r, e)
		}
	}
}

func TestNewOfAll(t *testing.T) {
	for n := 1; n <= 5; n++ {
		for id := range n {
			for vote := -1; vote < n; vote++ {
				r := newNode(t, id, n, api.Hard{Term: 7, Vote: vote, Log: logOf(0, 1, 4)})
				wantState(t, "new", r, state{api.Follower, 7, -1, 0, 2})
				wantTaken(t, "new", r, api.Ready{})
				wantVoted(t, r, id, n, vote)
			}
		}
	}
}

// wantVoted: the vote that was kept is given to nobody else; if there was none, to the first who asks.
func wantVoted(t *testing.T, r *Raft, id, n, vote int) {
	t.Helper()
	for from := range n {
		if from == id {
			continue
		}
		if vote < 0 {
			vote = from
		}
		r.Step(api.RMsg{Kind: api.RVote, From: from, To: id, Term: 7, Index: 2, LogTerm: 4})
		if msgs := r.Take().Msgs; len(msgs) != 1 || msgs[0].Reject != (from != vote) {
			t.Errorf("%d of %d, with the vote for %d, asked by %d: %+v", id, n, vote, from, msgs)
		}
	}
}

func TestNewWithASnapshot(t *testing.T) {
	r := newNode(t, 1, 3, snapOf(4, 6, 2, 3, 3))
	wantState(t, "new", r, state{api.Follower, 4, -1, 6, 8})
	wantTaken(t, "at first", r, api.Ready{Restore: true, Snap: []byte("snap")})
	wantTaken(t, "then", r, api.Ready{})
	// Terms and a snapshot's bytes are what they are.
	r = newNode(t, 1, 3, api.Hard{Vote: 2, Base: 1, BaseTerm: -3, Log: logOf(1, -9, 50)})
	wantState(t, "new", r, state{api.Follower, 0, -1, 1, 3})
	wantTaken(t, "at first", r, api.Ready{Restore: true})
	r = newNode(t, 0, 3, api.Hard{Vote: -1, Snap: []byte("of nothing")})
	wantTaken(t, "Base 0", r, api.Ready{})
}

// P12.2: Tick.

// TestLimits: the first is 4, and each draw chooses the next.
func TestLimits(t *testing.T) {
	for _, draw := range []uint64{0, 1, 2, 3, 4, 5, 6, 7, 1 << 32, 1<<63 + 2, math.MaxUint64} {
		r := newNode(t, 0, 3, fresh())
		for _, limit := range []int{4, 4 + int(draw%4), 4 + int(draw%4)} {
			for i := 1; i <= limit; i++ {
				if msgs := r.Take().Msgs; i > 1 && len(msgs) > 0 {
					t.Errorf("draw %d: %d messages behind tick %d of %d", draw, len(msgs), i-1, limit)
				}
				r.Tick(draw)
			}
			if msgs := r.Take().Msgs; len(msgs) != 2 || msgs[0].Kind != api.RPreVote {
				t.Errorf("draw %d: behind %d ticks: %+v", draw, limit, msgs)
			}
		}
	}
	// The draw of a tick that isn't at the limit doesn't count.
	r := newNode(t, 0, 3, fresh())
	for _, draw := range []uint64{3, 3, 3, 1, 3, 3, 3, 3} {
		r.Tick(draw)
	}
	if msgs := r.Take().Msgs; len(msgs) != 2 {
		t.Errorf("behind eight ticks: %+v", msgs)
	}
	r.Tick(0)
	if msgs := r.Take().Msgs; len(msgs) != 2 {
		t.Errorf("behind nine ticks: %+v", msgs)
	}
}

func TestAskingAhead(t *testing.T) {
	r := newNode(t, 2, 4, snapOf(5, 3, 1, 2, 4))
	r.Take()
	// A leader that it knew is forgotten.
	r.Step(api.RMsg{Kind: api.RAppend, From: 1, To: 2, Term: 5, Index: 5, LogTerm: 4})
	r.Take()
	wantState(t, "led", r, state{api.Follower, 5, 1, 3, 5})
	ticks(r, 4)
	wantState(t, "at its limit", r, state{api.PreCandidate, 5, -1, 3, 5})
	ask := api.RMsg{Kind: api.RPreVote, From: 2, Term: 6, Index: 5, LogTerm: 4}
	var want []api.RMsg
	for _, to := range []int{0, 1, 3} {
		ask.To = to
		want = append(want, ask)
	}
	wantMsgs(t, "at its limit", r, want...)
	ticks(r, 4)
	wantMsgs(t, "once more", r, want...)
	// With no entry behind the snapshot it is the last.
	r = newNode(t, 1, 2, snapOf(5, 3, 1))
	r.Take()
	ticks(r, 4)
	wantMsgs(t, "a snapshot alone", r, api.RMsg{Kind: api.RPreVote, From: 1, Term: 6, Index: 3, LogTerm: 1})
}

// TestAskingAnew: at the limit the votes so far are forgotten, in either role.
func TestAskingAnew(t *testing.T) {
	r := pre(t, 5, fresh())
	r.Step(api.RMsg{Kind: api.RPreVoted, From: 1, Term: 1})
	ticks(r, 4)
	r.Step(api.RMsg{Kind: api.RPreVoted, From: 2, Term: 1})
	wantState(t, "two of five", r, state{api.PreCandidate, 0, -1, 0, 0})
	r.Step(api.RMsg{Kind: api.RPreVoted, From: 1, Term: 1})
	wantState(t, "three of five", r, state{api.Candidate, 1, -1, 0, 0})
	r.Step(api.RMsg{Kind: api.RVoted, From: 1, Term: 1})
	r.Take()
	ticks(r, 4)
	wantState(t, "a Candidate at its limit", r, state{api.PreCandidate, 1, -1, 0, 0})
	var want []api.RMsg
	for to := 1; to < 5; to++ {
		want = append(want, api.RMsg{Kind: api.RPreVote, To: to, Term: 2})
	}
	wantMsgs(t, "a Candidate at its limit", r, want...)
	r.Step(api.RMsg{Kind: api.RVoted, From: 2, Term: 1})
	r.Step(api.RMsg{Kind: api.RVoted, From: 3, Term: 1})
	wantState(t, "votes that come late", r, state{api.PreCandidate, 1, -1, 0, 0})
}

func TestTickOfALeader(t *testing.T) {
	r := leader(t, 4, fresh())
	var want []api.RMsg
	for to := 1; to < 4; to++ {
		want = append(want, api.RMsg{Kind: api.RAppend, To: to, Term: 1, Entries: []api.Entry{{Term: 1}}})
	}
	for range 20 {
		r.Tick(0)
		wantMsgs(t, "a leader's tick", r, want...)
	}
	wantState(t, "still", r, state{api.Leader, 1, 0, 0, 1})
}

// P12.3: it counts.

// TestMajorities: how many others must vote, ahead and then, and that nobody counts twice.
func TestMajorities(t *testing.T) {
	for n := 1; n <= 5; n++ {
		r := newNode(t, 0, n, fresh())
		ticks(r, 4)
		for _, x := range []struct{ kind, role int }{{api.RPreVoted, api.PreCandidate}, {api.RVoted, api.Candidate}} {
			for from := 1; from <= n/2; from++ {
				wantRole(t, r, x.role, n)
				if from > 1 {
					r.Step(api.RMsg{Kind: x.kind, From: from - 1, Term: 1})
					wantRole(t, r, x.role, n)
				}
				r.Step(api.RMsg{Kind: x.kind, From: from, Term: 1})
			}
		}
		wantRole(t, r, api.Leader, n)
	}
}

func wantRole(t *testing.T, r *Raft, role, n int) {
	t.Helper()
	if got := stateOf(r).role; got != role {
		t.Errorf("of %d: the role %d, want %d", n, got, role)
	}
}

func TestStanding(t *testing.T) {
	r := newNode(t, 1, 3, api.Hard{Term: 4, Vote: 2, Log: logOf(0, 1, 3)})
	ticks(r, 4)
	r.Take()
	r.Step(api.RMsg{Kind: api.RPreVoted, From: 2, To: 1, Term: 5})
	wantState(t, "a Candidate", r, state{api.Candidate, 5, -1, 0, 2})
	ask := api.RMsg{Kind: api.RVote, From: 1, Term: 5, Index: 2, LogTerm: 3}
	other := ask
	other.To = 2
	wantSaved(t, "a Candidate", r, api.Hard{Term: 5, Vote: 1, Log: logOf(0, 1, 3)}, ask, other)
}

func TestLeading(t *testing.T) {
	r := candidate(t, 3, snapOf(4, 2, 1, 3))
	r.Step(api.RMsg{Kind: api.RVoted, From: 1, Term: 5})
	wantState(t, "a Leader", r, state{api.Leader, 5, 0, 2, 4})
	hard := snapOf(5, 2, 1, 3)
	hard.Vote = 0
	hard.Log = append(hard.Log, api.Entry{Term: 5})
	m := api.RMsg{Kind: api.RAppend, To: 1, Term: 5, Index: 3, LogTerm: 3, Commit: 2, Entries: []api.Entry{{Term: 5}}}
	other := m
	other.To = 2
	wantSaved(t, "a Leader", r, hard, m, other)
	// A vote more changes nothing.
	r.Step(api.RMsg{Kind: api.RVoted, From: 2, Term: 5})
	r.Step(api.RMsg{Kind: api.RPreVoted, From: 2, Term: 6})
	wantTaken(t, "a vote more", r, api.Ready{})
	wantState(t, "a vote more", r, state{api.Leader, 5, 0, 2, 4})
}

// TestLeadingAgain: what it knew of the others is forgotten.
func TestLeadingAgain(t *testing.T) {
	r := leader(t, 3, fresh())
	propose(t, r, 2)
	have(r, 1, 3)
	wantState(t, "led", r, state{api.Leader, 1, 0, 3, 3})
	r.Step(api.RMsg{Kind: api.RVoted, From: 1, Term: 2})
	wantState(t, "a greater term", r, state{api.Follower, 2, -1, 3, 3})
	ticks(r, 4)
	r.Step(api.RMsg{Kind: api.RPreVoted, From: 2, Term: 3})
	r.Take()
	r.Step(api.RMsg{Kind: api.RVoted, From: 2, Term: 3})
	wantState(t, "leads again", r, state{api.Leader, 3, 0, 3, 4})
	row := []api.Entry{{Term: 3}}
	hard := api.Hard{Term: 3, Log: append(append([]api.Entry{{Term: 1}}, logOf(1, 1, 1)...), row...)}
	m := api.RMsg{Kind: api.RAppend, To: 1, Term: 3, Index: 3, LogTerm: 1, Commit: 3, Entries: row}
	other := m
	other.To = 2
	wantSaved(t, "leads again", r, hard, m, other)
	// A match of before doesn't count: 1 must say so anew, and is fed then.
	have(r, 1, 3)
	m.Index, m.Commit = 3, 3
	wantMsgs(t, "the old match anew", r, m)
}

// P12.4: Propose.

func TestProposeOfOneThatDoesNotLead(t *testing.T) {
	for role, r := range inRoles(t) {
		if role == api.Leader {
			continue
		}
		was := stateOf(r)
		for _, size := range []int{0, 1, 4096, 4097} {
			if number, e := r.Propose(make([]byte, size)); number != 0 || e != api.ErrLeader {
				t.Errorf("role %d: Propose of %d bytes = %d, %d", role, size, number, e)
			}
		}
		wantState(t, "refused", r, was)
		wantTaken(t, "refused", r, api.Ready{})
	}
}

func TestProposeOfBytes(t *testing.T) {
	r := leader(t, 3, fresh())
	for _, size := range []int{4097, 1 << 20} {
		if number, e := r.Propose(make([]byte, size)); number != 0 || e != api.ErrLong {
			t.Errorf("Propose of %d bytes = %d, %d", size, number, e)
		}
	}
	wantTaken(t, "refused", r, api.Ready{})
	wantState(t, "refused", r, state{api.Leader, 1, 0, 0, 1})
	for i, data := range [][]byte{make([]byte, 4096), nil, {}, []byte("a")} {
		if number, e := r.Propose(data); number != i+2 || e != api.OK {
			t.Errorf("Propose of %d bytes = %d, %d", len(data), number, e)
		}
		x := r.Take()
		if !x.Save || len(x.Msgs) != 2 || len(x.Hard.Log) != i+2 || !bytes.Equal(x.Hard.Log[i+1].Data, data) || x.Hard.Log[i+1].Term != 1 {
			t.Errorf("proposed %d bytes: %s", len(data), told(x))
		}
	}
}

func TestProposeFeeds(t *testing.T) {
	r := leader(t, 3, fresh())
	have(r, 1, 1)
	r.Take()
	if number, e := r.Propose([]byte("e2")); number != 2 || e != api.OK {
		t.Errorf("Propose = %d, %d", number, e)
	}
	row := append([]api.Entry{{Term: 1}}, logOf(1, 1)...)
	wantSaved(t, "proposed", r, api.Hard{Term: 1, Log: row},
		api.RMsg{Kind: api.RAppend, To: 1, Term: 1, Index: 1, LogTerm: 1, Commit: 1, Entries: row[1:]},
		api.RMsg{Kind: api.RAppend, To: 2, Term: 1, Commit: 1, Entries: row})
}

func TestProposeOfTooManyOpen(t *testing.T) {
	r := leader(t, 3, fresh())
	propose(t, r, 63) // and the one without data
	r.Take()
	for _, size := range []int{0, 1, 4096} {
		if number, e := r.Propose(make([]byte, size)); number != 0 || e != api.ErrFull {
			t.Errorf("Propose of %d bytes = %d, %d", size, number, e)
		}
	}
	if number, e := r.Propose(make([]byte, 4097)); number != 0 || e != api.ErrLong {
		t.Errorf("Propose of too many bytes = %d, %d", number, e)
	}
	wantTaken(t, "refused", r, api.Ready{})
	wantState(t, "refused", r, state{api.Leader, 1, 0, 0, 64})
	have(r, 1, 1)
	propose(t, r, 1)
	if number, e := r.Propose(nil); number != 0 || e != api.ErrFull {
		t.Errorf("Propose = %d, %d", number, e)
	}
	// A leader that begins with as many, or more, lays its own entry all the same.
	r = leader(t, 3, hardOf(1, slices.Repeat([]int{1}, 70)...))
	wantState(t, "begins", r, state{api.Leader, 2, 0, 0, 71})
	if number, e := r.Propose(nil); number != 0 || e != api.ErrFull {
		t.Errorf("Propose = %d, %d", number, e)
	}
	// Alone all is committed at once.
	r = leader(t, 1, fresh())
	propose(t, r, 200)
	wantState(t, "alone", r, state{api.Leader, 1, 0, 201, 201})
}

// P12.5: Step.

// TestStepOfOthers: what isn't to it, or from no other node, or of a term below 0.
func TestStepOfOthers(t *testing.T) {
	for kind := -1; kind <= 9; kind++ {
		for _, m := range []api.RMsg{
			{From: 1, To: 1, Term: 9}, {From: 1, To: 2, Term: 9}, {From: 1, To: -1, Term: 9}, {From: 1, To: 3, Term: 9},
			{From: 0, Term: 9}, {From: -1, Term: 9}, {From: 3, Term: 9}, {From: math.MaxInt, Term: 9}, {From: math.MinInt, Term: 9},
			{From: 1, Term: -1}, {From: 1, Term: math.MinInt},
		} {
			for role, r := range inRoles(t) {
				was := stateOf(r)
				m.Kind, m.Index, m.LogTerm = kind, 9, 9
				r.Step(m)
				wantState(t, "role "+strconv.Itoa(role), r, was)
				wantTaken(t, "role "+strconv.Itoa(role), r, api.Ready{})
			}
		}
	}
}

// preVoted asks a node ahead, and tells whether it would vote.
func preVoted(t *testing.T, what string, r *Raft, m api.RMsg) bool {
	t.Helper()
	was := stateOf(r)
	m.Kind, m.From = api.RPreVote, 2
	r.Step(m)
	wantState(t, what, r, was)
	x := r.Take()
	if x.Save || len(x.Msgs) != 1 {
		t.Errorf("%s: %s", what, told(x))
		return false
	}
	got := x.Msgs[0]
	want := api.RMsg{Kind: api.RPreVoted, From: 0, To: 2, Term: m.Term}
	if got.Reject {
		want.Term, want.Reject = was.term, true
	}
	if told(api.Ready{Msgs: []api.RMsg{got}}) != told(api.Ready{Msgs: []api.RMsg{want}}) {
		t.Errorf("%s: %+v, want %+v", what, got, want)
	}
	return !got.Reject
}

// logs are ends of logs, held against one whose last entry is the second, of the term 2.
var logs = []struct {
	index, term int
	asNew       bool
}{
	{2, 2, true}, {3, 2, true}, {9, 2, true}, {1, 2, false}, {0, 2, false}, {-1, 2, false}, {math.MinInt, 2, false}, {math.MaxInt, 2, true},
	{1, 3, true}, {0, 3, true}, {-1, 3, true}, {2, 9, true}, {2, 1, false}, {3, 1, false}, {99, 1, false}, {99, 0, false}, {99, -1, false},
	{2, math.MinInt, false}, {0, math.MaxInt, true},
}

func TestPreVoteByLogs(t *testing.T) {
	for _, x := range logs {
		r := newNode(t, 0, 3, hardOf(3, 1, 2))
		if got := preVoted(t, "logs", r, api.RMsg{Term: 4, Index: x.index, LogTerm: x.term}); got != x.asNew {
			t.Errorf("a log to %d, of the term %d: %v", x.index, x.term, got)
		}
		r = newNode(t, 0, 3, snapOf(3, 2, 2))
		r.Take()
		if got := preVoted(t, "a snapshot alone", r, api.RMsg{Term: 4, Index: x.index, LogTerm: x.term}); got != x.asNew {
			t.Errorf("a snapshot alone, a log to %d, of the term %d: %v", x.index, x.term, got)
		}
	}
}

func TestPreVoteByTerms(t *testing.T) {
	for _, term := range []int{0, 1, 2, 3, 4, 5, 99, math.MaxInt} {
		r := newNode(t, 0, 3, hardOf(3, 1, 2))
		if got := preVoted(t, "terms", r, api.RMsg{Term: term, Index: 2, LogTerm: 2}); got != (term > 3) {
			t.Errorf("of the term %d: %v", term, got)
		}
	}
}

func TestPreVoteByRoles(t *testing.T) {
	for role, r := range inRoles(t) {
		if got := preVoted(t, "roles", r, api.RMsg{Term: 9, Index: 9, LogTerm: 9}); got != (role != api.Leader) {
			t.Errorf("role %d: %v", role, got)
		}
	}
}

// TestPreVoteByALeaderThatIsHeard: not while its ticks are fewer than 4.
func TestPreVoteByALeaderThatIsHeard(t *testing.T) {
	r := newNode(t, 0, 3, fresh())
	for range 4 {
		r.Tick(3) // its limit is 7 now
	}
	r.Take()
	r.Step(api.RMsg{Kind: api.RAppend, From: 1, Term: 1})
	r.Take()
	for tick := range 7 {
		if got := preVoted(t, "heard", r, api.RMsg{Term: 2, Index: 9, LogTerm: 9}); got != (tick >= 4) {
			t.Errorf("behind %d ticks: %v", tick, got)
		}
		r.Tick(0)
	}
	r = newNode(t, 0, 3, fresh())
	r.Step(api.RMsg{Kind: api.RSnap, From: 1, Term: 1})
	r.Take()
	if preVoted(t, "heard by RSnap", r, api.RMsg{Term: 2, Index: 9, LogTerm: 9}) {
		t.Error("it would vote against a leader of which it has heard")
	}
}

// TestPreVotedRejected: a greater term is followed, whatever the role; others change nothing.
func TestPreVotedRejected(t *testing.T) {
	for term := range 6 {
		for role, r := range inRoles(t) {
			want := stateOf(r)
			hard := r.hard
			r.Step(api.RMsg{Kind: api.RPreVoted, From: 1, Term: term, Reject: true})
			if term <= 3 {
				wantState(t, "not greater", r, want)
				wantTaken(t, "not greater", r, api.Ready{})
				continue
			}
			wantState(t, "role "+strconv.Itoa(role), r, state{api.Follower, term, -1, want.commit, want.last})
			hard.Term, hard.Vote = term, -1
			wantSaved(t, "role "+strconv.Itoa(role), r, hard)
		}
	}
}

// TestPreVotedOfTerms: only a PreCandidate counts it, and only of the term behind its own.
func TestPreVotedOfTerms(t *testing.T) {
	for _, term := range []int{0, 2, 3, 4, 5, math.MaxInt} {
		for role, r := range inRoles(t) {
			was := stateOf(r)
			r.Step(api.RMsg{Kind: api.RPreVoted, From: 1, Term: term})
			if role == api.PreCandidate && term == 4 {
				wantState(t, "counted", r, state{api.Candidate, 4, -1, 0, 2})
				continue
			}
			wantState(t, "not counted", r, was)
			wantTaken(t, "not counted", r, api.Ready{})
		}
	}
}

// TestGreaterTermIsFollowed: of all other kinds, also such as there aren't; what they bring on then is not looked at here.
func TestGreaterTermIsFollowed(t *testing.T) {
	for _, kind := range []int{api.RVote, api.RVoted, api.RAppend, api.RAppended, api.RSnap, 0, 8, -1, math.MaxInt} {
		for _, term := range []int{4, 7, math.MaxInt} {
			for _, r := range inRoles(t) {
				was := stateOf(r)
				r.Step(api.RMsg{Kind: kind, From: 2, Term: term, Index: 1, LogTerm: 1, Reject: kind == api.RAppended})
				want := state{api.Follower, term, -1, was.commit, was.last}
				if kind == api.RAppend {
					want.leader = 2
				}
				x := r.Take()
				if kind == api.RSnap {
					want.leader, want.commit, want.last = 2, 1, was.last
				}
				wantState(t, "followed", r, want)
				if !x.Save || x.Hard.Term != term || x.Hard.Vote != -1 {
					t.Errorf("kind %d: %s", kind, told(x))
				}
			}
		}
	}
}

// TestOldTerm: those who lead an older term are told; nothing else is done.
func TestOldTerm(t *testing.T) {
	for _, kind := range []int{api.RVote, api.RVoted, api.RAppend, api.RAppended, api.RSnap, 0, 8} {
		for term := range 3 {
			for _, r := range inRoles(t) {
				was := stateOf(r)
				r.Step(api.RMsg{Kind: kind, From: 2, Term: term, Index: 9, LogTerm: 9, Commit: 9, Entries: logOf(9, 9), Snap: []byte("x")})
				wantState(t, "old", r, was)
				if kind == api.RAppend || kind == api.RSnap {
					wantMsgs(t, "old", r, api.RMsg{Kind: api.RAppended, From: 0, To: 2, Term: 3, Reject: true, Index: was.last})
				} else {
					wantTaken(t, "old", r, api.Ready{})
				}
			}
		}
	}
	// The clock isn't set back.
	r := newNode(t, 0, 3, hardOf(3, 1, 2))
	ticks(r, 3)
	r.Step(api.RMsg{Kind: api.RAppend, From: 2, Term: 2})
	r.Tick(0)
	wantState(t, "the fourth tick", r, state{api.PreCandidate, 3, -1, 0, 2})
}

// RVote, RVoted.

func TestVoteByLogs(t *testing.T) {
	for _, x := range logs {
		r := newNode(t, 0, 3, hardOf(3, 1, 2))
		r.Step(api.RMsg{Kind: api.RVote, From: 1, Term: 3, Index: x.index, LogTerm: x.term})
		wantState(t, "asked", r, state{api.Follower, 3, -1, 0, 2})
		back := api.RMsg{Kind: api.RVoted, To: 1, Term: 3, Reject: !x.asNew}
		if !x.asNew {
			wantMsgs(t, "refused", r, back)
			continue
		}
		hard := hardOf(3, 1, 2)
		hard.Vote = 1
		wantSaved(t, "voted", r, hard, back)
	}
}

func TestVoteOnce(t *testing.T) {
	ask := api.RMsg{Kind: api.RVote, From: 1, Term: 3, Index: 2, LogTerm: 2}
	r := newNode(t, 0, 3, api.Hard{Term: 3, Vote: 1, Log: logOf(0, 1, 2)})
	r.Step(ask)
	wantMsgs(t, "the same one again", r, api.RMsg{Kind: api.RVoted, To: 1, Term: 3})
	ask.Index, ask.From = 9, 2
	r.Step(ask)
	wantMsgs(t, "another one", r, api.RMsg{Kind: api.RVoted, To: 2, Term: 3, Reject: true})
	ask.Index, ask.From = 1, 1
	r.Step(ask)
	wantMsgs(t, "the same one, with less", r, api.RMsg{Kind: api.RVoted, To: 1, Term: 3, Reject: true})
	// In a greater term the vote is free again.
	ask.Index, ask.From, ask.Term = 2, 2, 4
	r.Step(ask)
	wantSaved(t, "a greater term", r, api.Hard{Term: 4, Vote: 2, Log: logOf(0, 1, 2)}, api.RMsg{Kind: api.RVoted, To: 2, Term: 4})
	// Even when it isn't given then.
	ask.Index, ask.From, ask.Term = 1, 1, 5
	r.Step(ask)
	wantSaved(t, "a greater term, with less", r, api.Hard{Term: 5, Vote: -1, Log: logOf(0, 1, 2)}, api.RMsg{Kind: api.RVoted, To: 1, Term: 5, Reject: true})
}

// TestVoteAndTheClock: a vote sets it back, a refusal doesn't.
func TestVoteAndTheClock(t *testing.T) {
	for _, x := range []struct{ index, role int }{{0, api.Follower}, {-1, api.PreCandidate}} {
		r := newNode(t, 0, 3, fresh())
		ticks(r, 3)
		r.Step(api.RMsg{Kind: api.RVote, From: 1, Index: x.index})
		r.Tick(0)
		wantRole(t, r, x.role, 3)
	}
	// The same one again sets it back too.
	r := newNode(t, 0, 3, api.Hard{Vote: 1})
	ticks(r, 3)
	r.Step(api.RMsg{Kind: api.RVote, From: 1})
	ticks(r, 3)
	wantRole(t, r, api.Follower, 3)
	r.Tick(0)
	wantRole(t, r, api.PreCandidate, 3)
}

// TestVoteOfOtherRoles: they keep their role, in which they have voted for themselves, or ask ahead of that.
func TestVoteOfOtherRoles(t *testing.T) {
	for role, r := range inRoles(t) {
		was := stateOf(r)
		r.Step(api.RMsg{Kind: api.RVote, From: 1, Term: 3, Index: 9, LogTerm: 9})
		wantState(t, "asked", r, was)
		x := r.Take()
		reject := role == api.Candidate || role == api.Leader
		if len(x.Msgs) != 1 || x.Msgs[0].Reject != reject || x.Save == reject {
			t.Errorf("role %d: %s", role, told(x))
		}
	}
}

func TestVotedByRoles(t *testing.T) {
	for _, reject := range []bool{false, true} {
		for role, r := range inRoles(t) {
			was := stateOf(r)
			r.Step(api.RMsg{Kind: api.RVoted, From: 1, Term: 3, Reject: reject})
			if role == api.Candidate && !reject {
				wantState(t, "counted", r, state{api.Leader, 3, 0, 0, 3})
				continue
			}
			wantState(t, "not counted", r, was)
			wantTaken(t, "not counted", r, api.Ready{})
		}
	}
}

// Rules that hold everywhere.

func TestNil(t *testing.T) {
	var r *Raft
	r.Tick(0)
	r.Step(api.RMsg{Kind: api.RVote, From: 1, Term: 1})
	for _, size := range []int{0, 1, 4097} {
		if number, e := r.Propose(make([]byte, size)); number != 0 || e != api.ErrState {
			t.Errorf("Propose = %d, %d", number, e)
		}
	}
	for _, index := range []int{-1, 0, 1} {
		if e := r.Compact(index, nil); e != api.ErrState {
			t.Errorf("Compact = %d", e)
		}
	}
	wantTaken(t, "of nil", r, api.Ready{})
	wantState(t, "of nil", r, state{})
}

// TestZero: one that New didn't make doesn't panic.
func TestZero(t *testing.T) {
	var r Raft
	for kind := range 9 {
		ticks(&r, 9)
		r.Step(api.RMsg{Kind: kind, From: 1, Term: 1, Entries: logOf(0, 1)})
		r.Propose(nil)
		r.Compact(kind, nil)
		r.Take()
	}
	wantState(t, "of zero", &r, state{})
}

func TestTwoNodesAreApart(t *testing.T) {
	kept := snapOf(3, 2, 1, 2, 2)
	r, s := newNode(t, 0, 1, kept), newNode(t, 0, 1, kept)
	ticks(r, 4)
	propose(t, r, 3)
	scribble(r.Take())
	wantState(t, "the other one", s, state{api.Follower, 3, -1, 2, 4})
	ticks(s, 4)
	hard := snapOf(4, 2, 1, 2, 2)
	hard.Vote = 0
	hard.Log = append(hard.Log, api.Entry{Term: 4})
	wantTaken(t, "the other one", s, api.Ready{
		Save: true, Hard: hard, Restore: true, Snap: []byte("snap"),
		Commits: []api.Commit{{Index: 3, Data: []byte("e3")}, {Index: 4, Data: []byte("e4")}, {Index: 5}},
	})
}

// TestAnswersShareNothing: neither with what was handed in, nor among themselves, nor with what is kept.
func TestAnswersShareNothing(t *testing.T) {
	kept := snapOf(3, 2, 1, 2, 2)
	r := newNode(t, 0, 3, kept)
	scribble(api.Ready{Hard: kept})
	r.Step(api.RMsg{Kind: api.RAppend, From: 1, Term: 3, Index: 4, LogTerm: 2, Commit: 3})
	x := r.Take()
	want := snapOf(3, 2, 1, 2, 2)
	if !bytes.Equal(x.Snap, want.Snap) || len(x.Commits) != 1 || string(x.Commits[0].Data) != "e3" {
		t.Errorf("what New was handed is shared: %s", told(x))
	}
	data, snap := []byte("data"), []byte("compacted")
	r = leader(t, 1, fresh())
	r.Propose(data)
	r.Propose(data)
	copy(data, "!!!!")
	x = r.Take()
	if string(x.Commits[0].Data) != "data" || string(x.Hard.Log[1].Data) != "data" {
		t.Errorf("what Propose was handed is shared: %s", told(x))
	}
	copy(x.Commits[0].Data, "????")
	if string(x.Hard.Log[1].Data) != "data" {
		t.Errorf("a commit's data are those of Hard: %s", told(x))
	}
	r.Compact(2, snap)
	copy(snap, "!!!!!!!!!")
	scribble(x)
	x = r.Take()
	if string(x.Hard.Snap) != "compacted" || len(x.Hard.Log) != 1 || string(x.Hard.Log[0].Data) != "data" {
		t.Errorf("what Compact was handed, or Take answered, is shared: %s", told(x))
	}
}

// TestMessagesShareNothing: two that feed the same, and Hard, have lists of their own.
func TestMessagesShareNothing(t *testing.T) {
	r := leader(t, 3, hardOf(1, 1, 1))
	r.Step(api.RMsg{Kind: api.RAppended, From: 1, Term: 2, Index: 0, Reject: true})
	r.Step(api.RMsg{Kind: api.RAppended, From: 2, Term: 2, Index: 0, Reject: true})
	propose(t, r, 1)
	x := r.Take()
	was := told(api.Ready{Hard: x.Hard, Msgs: x.Msgs[1:]})
	x.Msgs[0].Entries[0].Data[0] = '!'
	_ = append(x.Msgs[0].Entries[:1], api.Entry{Term: -7}, api.Entry{Term: -7})
	if got := told(api.Ready{Hard: x.Hard, Msgs: x.Msgs[1:]}); got != was {
		t.Errorf("messages share entries:\n%s, want\n%s", got, was)
	}
	r = leader(t, 3, snapOf(1, 4, 1))
	r.Step(api.RMsg{Kind: api.RAppended, From: 1, Term: 2, Index: 1, Reject: true})
	r.Step(api.RMsg{Kind: api.RAppended, From: 2, Term: 2, Index: 1, Reject: true})
	x = r.Take()
	x.Msgs[0].Snap[0] = '!'
	if string(x.Msgs[1].Snap) != "snap" {
		t.Errorf("messages share a snapshot: %s", told(x))
	}
	r.Tick(0)
	if x = r.Take(); string(x.Msgs[0].Snap) != "snap" {
		t.Errorf("a message shares the node's snapshot: %s", told(x))
	}
}

// TestWhatWasTakenStays: later calls and answers don't write over it.
func TestWhatWasTakenStays(t *testing.T) {
	r := leader(t, 3, hardOf(1, 1))
	propose(t, r, 3)
	have(r, 1, 3)
	x := r.Take()
	was := told(x)
	propose(t, r, 2)
	have(r, 2, 5)
	r.Take()
	r.Compact(3, []byte("s"))
	r.Tick(0)
	r.Step(api.RMsg{Kind: api.RAppend, From: 1, Term: 9, Index: 5, LogTerm: 2, Entries: logOf(5, 9, 9)})
	r.Take()
	if got := told(x); got != was {
		t.Errorf("taken, and changed:\n%s, was\n%s", got, was)
	}
}

// TestNumbersThatGoRound: sums that pass the greatest number go round, and nothing panics.
func TestNumbersThatGoRound(t *testing.T) {
	for _, base := range []int{math.MaxInt - 2, math.MaxInt - 1, math.MaxInt} {
		for _, terms := range [][]int{nil, {1}, {1, 1}, {1, 1, 1}} {
			for n := range 3 {
				r := newNode(t, 0, n+1, snapOf(math.MaxInt, base, 1, terms...))
				wantState(t, "new", r, state{api.Follower, math.MaxInt, -1, base, base + len(terms)})
				for _, index := range []int{-1, 0, 1, base - 1, base, base + 1, base + 2, math.MaxInt, math.MinInt} {
					for kind := range 9 {
						r.Step(api.RMsg{Kind: kind, From: 1, Term: math.MaxInt, Index: index, LogTerm: 1, Commit: index, Entries: logOf(0, 1, 1)})
						r.Tick(math.MaxUint64)
						r.Propose(nil)
						r.Compact(index, nil)
						r.Take()
					}
				}
			}
		}
	}
	r := leader(t, 1, api.Hard{Term: math.MaxInt, Vote: -1})
	wantState(t, "the term goes round", r, state{api.Leader, math.MinInt, 0, 1, 1})
}
