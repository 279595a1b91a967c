package raft

import (
	"math"
	"strconv"
	"testing"

	"penstock/api"
)

// appended is the answer of 0 to 1, of the term 5.
func appended(index int, reject bool) api.RMsg {
	return api.RMsg{Kind: api.RAppended, To: 1, Term: 5, Index: index, Reject: reject}
}

// fed is a follower of 1, in the term 5, behind an RAppend of it.
func fed(t *testing.T, kept api.Hard, m api.RMsg) *Raft {
	t.Helper()
	r := newNode(t, 0, 3, kept)
	r.Take()
	step(r, m)
	return r
}

// step takes a message of 1, of the term 5; an RAppend, if nothing else is said.
func step(r *Raft, m api.RMsg) {
	if m.Kind == 0 {
		m.Kind = api.RAppend
	}
	m.From, m.Term = 1, 5
	r.Step(m)
}

// RAppend.

// TestAppendIsHeard: by any but a Leader, whatever comes of it.
func TestAppendIsHeard(t *testing.T) {
	for _, kind := range []int{api.RAppend, api.RSnap} {
		for _, index := range []int{-1, 0, 2, 9} {
			for role, r := range inRoles(t) {
				was := stateOf(r)
				r.Step(api.RMsg{Kind: kind, From: 2, Term: 3, Index: index, LogTerm: 2})
				got := stateOf(r)
				if role == api.Leader {
					wantState(t, "a Leader", r, was)
					wantTaken(t, "a Leader", r, api.Ready{})
				} else if got.role != api.Follower || got.leader != 2 || got.term != 3 {
					t.Errorf("role %d, kind %d, Index %d: %+v", role, kind, index, got)
				} else if msgs := r.Take().Msgs; len(msgs) != 1 || msgs[0].Kind != api.RAppended || msgs[0].To != 2 || msgs[0].Term != 3 {
					t.Errorf("role %d, kind %d, Index %d: %+v", role, kind, index, msgs)
				}
			}
			r := newNode(t, 0, 3, hardOf(3, 1, 2))
			ticks(r, 3)
			r.Step(api.RMsg{Kind: kind, From: 2, Term: 3, Index: index, LogTerm: 2})
			ticks(r, 3)
			wantRole(t, r, api.Follower, 3)
			r.Tick(0)
			wantRole(t, r, api.PreCandidate, 3)
		}
	}
}

func TestAppendByIndex(t *testing.T) {
	for _, x := range []struct {
		what        string
		index, term int
		back        api.RMsg
	}{
		{"the beginning", 0, 0, appended(0, false)},
		{"the first", 1, 1, appended(1, false)},
		{"the last", 3, 4, appended(3, false)},
		{"the beginning, of another term", 0, 1, appended(0, true)}, // one less, but not below commit
		{"the first, of another term", 1, 2, appended(0, true)},
		{"the second, of another term", 2, 1, appended(1, true)},
		{"the second, of another term", 2, 5, appended(1, true)},
		{"the last, of another term", 3, 2, appended(2, true)},
		{"the next", 4, 4, appended(3, true)},
		{"one more", 5, 4, appended(3, true)},
		{"far", math.MaxInt, 4, appended(3, true)},
		{"below 0", -1, 0, appended(0, false)},
		{"far below 0", math.MinInt, 0, appended(0, false)},
	} {
		r := fed(t, hardOf(5, 1, 2, 4), api.RMsg{Index: x.index, LogTerm: x.term})
		wantMsgs(t, x.what, r, x.back)
		wantState(t, x.what, r, state{api.Follower, 5, 1, 0, 3})
	}
}

// TestAppendRefusedAtCommit: the answer's Index isn't below commit, and not above the last.
func TestAppendRefusedAtCommit(t *testing.T) {
	for _, x := range []struct{ index, term, back int }{{2, 9, 2}, {3, 9, 2}, {4, 9, 3}, {5, 9, 4}, {6, 9, 4}, {9, 9, 4}, {1, 9, 2}, {0, 9, 2}} {
		r := fed(t, hardOf(5, 1, 2, 4, 4), api.RMsg{Index: 2, LogTerm: 2, Commit: 2})
		r.Take()
		step(r, api.RMsg{Index: x.index, LogTerm: x.term, Commit: 4, Entries: logOf(x.index, 9)})
		wantMsgs(t, "refused", r, appended(x.back, true))
		wantState(t, "refused", r, state{api.Follower, 5, 1, 2, 4})
	}
}

func TestAppendLays(t *testing.T) {
	for _, x := range []struct {
		what  string
		index int
		term  int
		terms []int
		want  []int // the log then
		save  bool
	}{
		{"behind the last", 3, 4, []int{5}, []int{1, 2, 4, 5}, true},
		{"more behind the last", 3, 4, []int{4, 5, 5}, []int{1, 2, 4, 4, 5, 5}, true},
		{"one that is there", 2, 2, []int{4}, []int{1, 2, 4}, false},
		{"all that are there", 0, 0, []int{1, 2, 4}, []int{1, 2, 4}, false},
		{"some that are there: the others stay", 0, 0, []int{1, 2}, []int{1, 2, 4}, false},
		{"none: the others stay", 1, 1, nil, []int{1, 2, 4}, false},
		{"there, and new", 1, 1, []int{2, 4, 5}, []int{1, 2, 4, 5}, true},
		{"another at the last", 2, 2, []int{5}, []int{1, 2, 5}, true},
		{"another in the middle: those behind it go", 1, 1, []int{5}, []int{1, 5}, true},
		{"another at the first", 0, 0, []int{3, 3, 3, 3}, []int{3, 3, 3, 3}, true},
		{"there, and another", 0, 0, []int{1, 3}, []int{1, 3}, true},
		{"another of an older term", 1, 1, []int{1}, []int{1, 1}, true},
	} {
		// The data tell what is laid: another entry with the term of one that is there is that one.
		row := logOf(100+x.index, x.terms...)
		r := fed(t, hardOf(5, 1, 2, 4), api.RMsg{Index: x.index, LogTerm: x.term, Entries: row})
		end := x.index + len(x.terms)
		hard := hardOf(5, x.want...)
		laid := false
		for i := range x.terms {
			if at := x.index + i; laid || at >= 3 || x.terms[i] != []int{1, 2, 4}[at] {
				laid = true
				hard.Log[at] = row[i]
			}
		}
		wantState(t, x.what, r, state{api.Follower, 5, 1, 0, len(x.want)})
		if x.save {
			wantSaved(t, x.what, r, hard, appended(end, false))
		} else {
			wantMsgs(t, x.what, r, appended(end, false))
		}
	}
}

// TestAppendCommits: up to the message's last entry, not the node's own, and never back.
func TestAppendCommits(t *testing.T) {
	for _, x := range []struct{ index, term, count, commit, want int }{
		{0, 0, 0, 9, 0}, {1, 1, 0, 9, 1}, {1, 1, 0, 1, 1}, {1, 1, 0, 0, 0}, {1, 1, 1, 9, 2}, {1, 1, 1, 1, 1}, {3, 4, 0, 2, 2}, {3, 4, 0, 3, 3},
		{3, 4, 2, 4, 4}, {3, 4, 2, 5, 5}, {3, 4, 2, 6, 5}, {3, 4, 0, -1, 0}, {3, 4, 0, math.MinInt, 0}, {2, 2, 1, math.MaxInt, 3},
	} {
		row := logOf(x.index, 2, 4)[:min(x.count, 2)]
		if x.index == 2 {
			row = logOf(2, 4)
		}
		r := fed(t, hardOf(5, 1, 2, 4), api.RMsg{Index: x.index, LogTerm: x.term, Commit: x.commit, Entries: row})
		got := r.Take()
		if commit := stateOf(r).commit; commit != x.want || len(got.Commits) != x.want {
			t.Errorf("%+v: commit %d, %d told", x, commit, len(got.Commits))
		}
		for i, c := range got.Commits {
			if c.Index != i+1 || string(c.Data) != "e"+strconv.Itoa(i+1) {
				t.Errorf("%+v: told %+v", x, got.Commits)
			}
		}
		if len(got.Msgs) != 1 || got.Msgs[0].Index != x.index+len(row) {
			t.Errorf("%+v: %+v", x, got.Msgs)
		}
	}
	r := fed(t, hardOf(5, 1, 2, 4), api.RMsg{Index: 3, LogTerm: 4, Commit: 3})
	r.Take()
	step(r, api.RMsg{Index: 1, LogTerm: 1, Commit: 1})
	wantMsgs(t, "never back", r, appended(1, false))
	wantState(t, "never back", r, state{api.Follower, 5, 1, 3, 3})
}

// TestAppendOverWhatIsCommitted: nothing is laid, and nothing answered.
func TestAppendOverWhatIsCommitted(t *testing.T) {
	for _, row := range [][]api.Entry{logOf(0, 3), logOf(0, 1, 3), logOf(0, 3, 3, 3, 3, 3), logOf(0, 1, 3, 4, 5)} {
		r := fed(t, hardOf(5, 1, 2, 4), api.RMsg{Index: 2, LogTerm: 2, Commit: 2})
		r.Take()
		ticks(r, 3)
		step(r, api.RMsg{Commit: 3, Entries: row})
		wantTaken(t, "over what is committed", r, api.Ready{})
		wantState(t, "over what is committed", r, state{api.Follower, 5, 1, 2, 3})
		// It was heard all the same.
		ticks(r, 3)
		wantRole(t, r, api.Follower, 3)
	}
	// Behind commit another one is laid.
	r := fed(t, hardOf(5, 1, 2, 4), api.RMsg{Index: 2, LogTerm: 2, Commit: 2})
	r.Take()
	step(r, api.RMsg{Entries: logOf(0, 1, 2, 5)})
	wantSaved(t, "behind commit", r, hardOf(5, 1, 2, 5), appended(3, false))
}

// TestAppendAheadOfBase: what the snapshot stands for is let go first.
func TestAppendAheadOfBase(t *testing.T) {
	for _, x := range []struct {
		what  string
		m     api.RMsg
		back  api.RMsg
		terms []int // the log then
		save  bool
	}{
		{"at Base", api.RMsg{Index: 4, LogTerm: 2}, appended(4, false), []int{3, 3}, false},
		{"at Base, of another term", api.RMsg{Index: 4, LogTerm: 3}, appended(4, true), []int{3, 3}, false},
		{"at Base, of another term, with entries", api.RMsg{Index: 4, LogTerm: 3, Entries: logOf(4, 5)}, appended(4, true), []int{3, 3}, false},
		{"no entries", api.RMsg{Index: 3, LogTerm: 2}, appended(4, false), []int{3, 3}, false},
		{"just as many", api.RMsg{Index: 3, LogTerm: 9, Entries: logOf(3, 9)}, appended(4, false), []int{3, 3}, false},
		{"just as many", api.RMsg{Index: 1, LogTerm: 9, Entries: logOf(1, 9, 9, 9)}, appended(4, false), []int{3, 3}, false},
		{"one too few", api.RMsg{Index: 1, LogTerm: 9, Entries: logOf(1, 9, 9)}, appended(4, false), []int{3, 3}, false},
		{"from 0 on", api.RMsg{Entries: logOf(0, 9, 9, 9, 9, 3)}, appended(5, false), []int{3, 3}, false},
		{"behind it", api.RMsg{Index: 2, Entries: logOf(2, 2, 2, 3, 3, 5)}, appended(7, false), []int{3, 3, 5}, true},
		{"another behind it", api.RMsg{Index: 2, Entries: logOf(2, 2, 2, 5)}, appended(5, false), []int{5}, true},
		{"below 0, with many", api.RMsg{Index: -1, Entries: logOf(-1, 2, 2, 2, 2, 2, 5, 5)}, appended(4, false), []int{3, 3}, false},
		{"far below 0", api.RMsg{Index: math.MinInt, Entries: logOf(0, 2, 2, 2, 2, 2)}, appended(4, false), []int{3, 3}, false},
	} {
		r := fed(t, snapOf(5, 4, 2, 3, 3), x.m)
		wantState(t, x.what, r, state{api.Follower, 5, 1, 4, 4 + len(x.terms)})
		if x.save {
			wantSaved(t, x.what, r, snapOf(5, 4, 2, x.terms...), x.back)
		} else {
			wantMsgs(t, x.what, r, x.back)
		}
	}
}

// TestAppendAheadOfBaseAndCommit: what is answered if there aren't enough entries is commit, not Base.
func TestAppendAheadOfBaseAndCommit(t *testing.T) {
	for _, x := range []struct {
		m    api.RMsg
		back int
	}{
		{api.RMsg{Index: 2, Entries: logOf(2, 2)}, 6},
		{api.RMsg{Index: -1, Entries: logOf(2, 2, 2, 2, 2, 2, 2, 2)}, 6},
		{api.RMsg{Index: 2, Entries: logOf(2, 2, 2)}, 4},
		{api.RMsg{Index: 3, Entries: logOf(3, 2, 3)}, 5},
	} {
		r := fed(t, snapOf(5, 4, 2, 3, 3, 3), api.RMsg{Index: 6, LogTerm: 3, Commit: 6})
		r.Take()
		step(r, x.m)
		wantMsgs(t, "commit is above Base", r, appended(x.back, false))
		wantState(t, "commit is above Base", r, state{api.Follower, 5, 1, 6, 7})
	}
}

// RSnap.

func TestSnapAtCommit(t *testing.T) {
	for _, index := range []int{math.MinInt, -1, 0, 1, 2} {
		r := fed(t, hardOf(5, 1, 2, 4), api.RMsg{Index: 2, LogTerm: 2, Commit: 2})
		r.Take()
		step(r, api.RMsg{Kind: api.RSnap, Index: index, LogTerm: 9, Commit: 3, Snap: []byte("s")})
		wantMsgs(t, "at commit or below", r, appended(2, false))
		wantState(t, "at commit or below", r, state{api.Follower, 5, 1, 2, 3})
	}
}

func TestSnap(t *testing.T) {
	for _, x := range []struct {
		what        string
		index, term int
		stay        []int
	}{
		{"behind all", 4, 4, nil},
		{"far behind all", 99, 5, nil},
		{"the last", 3, 4, nil},
		{"the last, of another term", 3, 3, nil},
		{"the second", 2, 2, []int{4}},
		{"the second, of another term", 2, 4, nil},
		{"the first", 1, 1, []int{2, 4}},
		{"the first, of another term", 1, 0, nil},
	} {
		r := fed(t, hardOf(5, 1, 2, 4), api.RMsg{Kind: api.RSnap, Index: x.index, LogTerm: x.term, Commit: 99, Snap: []byte("s")})
		wantState(t, x.what, r, state{api.Follower, 5, 1, x.index, x.index + len(x.stay)})
		hard := api.Hard{Term: 5, Vote: -1, Base: x.index, BaseTerm: x.term, Snap: []byte("s"), Log: logOf(x.index, x.stay...)}
		wantTaken(t, x.what, r, api.Ready{Save: true, Hard: hard, Restore: true, Snap: []byte("s"), Msgs: []api.RMsg{appended(x.index, false)}})
		wantTaken(t, "told once", r, api.Ready{})
	}
}

// TestSnapAndCommits: what wasn't told yet isn't told any more, if it is ahead of the snapshot; what is behind it, is.
func TestSnapAndCommits(t *testing.T) {
	r := fed(t, hardOf(5, 1, 2, 4, 4), api.RMsg{Index: 2, LogTerm: 2, Commit: 2})
	step(r, api.RMsg{Kind: api.RSnap, Index: 3, LogTerm: 4, Snap: []byte("s")})
	step(r, api.RMsg{Index: 4, LogTerm: 4, Commit: 4})
	wantTaken(t, "committed, a snapshot, committed", r, api.Ready{
		Save: true, Hard: api.Hard{Term: 5, Vote: -1, Base: 3, BaseTerm: 4, Snap: []byte("s"), Log: logOf(3, 4)},
		Restore: true, Snap: []byte("s"), Commits: []api.Commit{{Index: 4, Data: []byte("e4")}},
		Msgs: []api.RMsg{appended(2, false), appended(3, false), appended(4, false)},
	})
	// Of two snapshots the second one is told.
	r = newNode(t, 0, 3, snapOf(5, 2, 1))
	step(r, api.RMsg{Kind: api.RSnap, Index: 3, LogTerm: 4, Snap: []byte("s")})
	x := r.Take()
	if !x.Restore || string(x.Snap) != "s" || x.Hard.Base != 3 {
		t.Errorf("two snapshots: %s", told(x))
	}
}

// RAppended.

// answer is one of the node 1, of the term 2.
func answer(index int, reject bool) api.RMsg {
	return api.RMsg{Kind: api.RAppended, From: 1, Term: 2, Index: index, Reject: reject}
}

// feedOf is what the leader of three sends that has kept entries of these terms, all of the term 1 but the last.
func feedOf(to, index, logTerm, commit int, row ...api.Entry) api.RMsg {
	return api.RMsg{Kind: api.RAppend, To: to, Term: 2, Index: index, LogTerm: logTerm, Commit: commit, Entries: row}
}

func TestAppendedByRoles(t *testing.T) {
	for role, r := range inRoles(t) {
		was := stateOf(r)
		r.Step(api.RMsg{Kind: api.RAppended, From: 1, Term: 3, Index: was.last})
		if role == api.Leader {
			wantState(t, "a Leader", r, state{api.Leader, 3, 0, 3, 3})
			continue
		}
		wantState(t, "others", r, was)
		wantTaken(t, "others", r, api.Ready{})
	}
}

func TestAppendedOutside(t *testing.T) {
	for _, index := range []int{math.MinInt, -1, 4, 5, math.MaxInt} {
		for _, reject := range []bool{false, true} {
			r := leader(t, 3, hardOf(1, 1, 1))
			r.Step(answer(index, reject))
			wantTaken(t, "outside", r, api.Ready{})
			wantState(t, "outside", r, state{api.Leader, 2, 0, 0, 3})
		}
	}
}

func TestAppendedReject(t *testing.T) {
	row := append(logOf(0, 1, 1, 1, 1), api.Entry{Term: 2})
	// Its next is 5 at first.
	for _, index := range []int{0, 1, 2, 3, 4, 5} {
		r := leader(t, 3, hardOf(1, 1, 1, 1, 1))
		r.Step(answer(index, true))
		if index >= 4 {
			wantTaken(t, "not below its next", r, api.Ready{})
			continue
		}
		logTerm := min(index, 1)
		wantMsgs(t, "it is fed", r, feedOf(1, index, logTerm, 0, row[index:]...))
		// That is its next, from then on; the other one's isn't.
		r.Tick(0)
		wantMsgs(t, "its next", r, feedOf(1, index, logTerm, 0, row[index:]...), feedOf(2, 4, 1, 0, row[4]))
		r.Step(answer(index, true))
		wantTaken(t, "once more", r, api.Ready{})
	}
	// Not below its match.
	r := leader(t, 3, hardOf(1, 1, 1, 1, 1))
	r.Step(answer(2, false))
	r.Take()
	for _, index := range []int{0, 1} {
		r.Step(answer(index, true))
		wantTaken(t, "below its match", r, api.Ready{})
	}
	r.Step(answer(2, true))
	wantMsgs(t, "at its match", r, feedOf(1, 2, 1, 0, row[2:]...))
}

func TestAppendedAccept(t *testing.T) {
	row := append(logOf(0, 1, 1, 1), api.Entry{Term: 2})
	r := leader(t, 3, hardOf(1, 1, 1, 1))
	r.Step(answer(0, false))
	wantTaken(t, "not above its match", r, api.Ready{})
	r.Step(answer(2, false))
	wantMsgs(t, "its next was above", r, feedOf(1, 3, 1, 0, row[3]))
	r.Step(answer(2, false))
	wantTaken(t, "the same once more", r, api.Ready{})
	r.Step(answer(1, false))
	wantTaken(t, "less", r, api.Ready{})
	r.Step(answer(3, false))
	wantMsgs(t, "of an older term: it isn't committed", r, feedOf(1, 3, 1, 0, row[3]))
	r.Step(answer(4, false))
	x := r.Take()
	if x.Save || len(x.Commits) != 4 {
		t.Errorf("committed: %s", told(x))
	}
	if want := []api.RMsg{feedOf(1, 4, 2, 4), feedOf(2, 3, 1, 4, row[3])}; told(api.Ready{Msgs: x.Msgs}) != told(api.Ready{Msgs: want}) {
		t.Errorf("all others are fed: %+v, want %+v", x.Msgs, want)
	}
}

// TestAppendedRaisesNext: what was fed with less than it has goes on behind that.
func TestAppendedRaisesNext(t *testing.T) {
	row := append(logOf(0, 1, 1, 1), api.Entry{Term: 2})
	r := leader(t, 5, hardOf(1, 1, 1, 1))
	r.Step(answer(0, true))
	r.Take()
	r.Step(answer(2, false))
	wantMsgs(t, "it is fed", r, feedOf(1, 2, 1, 0, row[2:]...))
	r.Step(answer(4, false))
	wantTaken(t, "its next isn't there, and commit hasn't risen", r, api.Ready{})
	wantState(t, "two of five", r, state{api.Leader, 2, 0, 0, 4})
}

// TestFeedOfMany: up to 16 at a time.
func TestFeedOfMany(t *testing.T) {
	r := leader(t, 3, fresh())
	propose(t, r, 40)
	r.Take()
	for _, x := range []struct{ index, count int }{{0, 16}, {16, 16}, {24, 16}, {25, 16}, {26, 15}, {32, 9}, {40, 1}, {41, 0}} {
		if x.index > 0 {
			have(r, 1, x.index)
			r.Take()
		}
		r.Tick(0)
		m := r.Take().Msgs[0]
		if m.Kind != api.RAppend || m.Index != x.index || m.LogTerm != min(x.index, 1) || len(m.Entries) != x.count || m.Commit != x.index {
			t.Errorf("behind %d: %+v", x.index, m)
		}
		for i, e := range m.Entries {
			if number := x.index + 1 + i; number > 1 && string(e.Data) != "e"+strconv.Itoa(number) || e.Term != 1 {
				t.Errorf("behind %d: %+v", x.index, m.Entries)
			}
		}
	}
}

// TestFeedOfASnapshot: to one whose next is at Base or ahead of it.
func TestFeedOfASnapshot(t *testing.T) {
	hard := snapOf(1, 4, 1, 1)
	snap := api.RMsg{Kind: api.RSnap, To: 1, Term: 2, Index: 4, LogTerm: 1, Commit: 4, Snap: hard.Snap}
	row := []api.Entry{{Term: 1, Data: []byte("e5")}, {Term: 2}}
	for index := range 6 {
		r := leader(t, 3, hard)
		r.Step(answer(index, true))
		switch {
		case index < 4:
			wantMsgs(t, "ahead of Base", r, snap)
		case index == 4:
			wantMsgs(t, "at Base", r, feedOf(1, 4, 1, 4, row...))
		default:
			wantTaken(t, "behind it", r, api.Ready{})
		}
	}
	// One whose next is ahead of Base has entries that it can be given by the snapshot alone.
	r := leader(t, 3, hard)
	r.Step(answer(0, true))
	r.Take()
	r.Step(answer(2, false))
	wantMsgs(t, "its next is ahead of Base", r, snap)
	r.Step(answer(4, false))
	wantMsgs(t, "behind the snapshot", r, feedOf(1, 4, 1, 4, row...))
}

// P12.6: it looks at commits.

func TestCommitsByMajorities(t *testing.T) {
	for n := 2; n <= 5; n++ {
		r := leader(t, n, fresh())
		propose(t, r, 2)
		for from := 1; from < n; from++ {
			want := 0
			if from > n/2 {
				want = 3
			}
			if got := stateOf(r).commit; got != want {
				t.Errorf("%d of %d have it: commit %d, want %d", from, n, got, want)
			}
			have(r, from, 3)
		}
		if got := stateOf(r).commit; got != 3 {
			t.Errorf("all %d have it: commit %d", n, got)
		}
	}
}

// TestCommitsByMatches: what more than half have, where all have something else.
func TestCommitsByMatches(t *testing.T) {
	r := leader(t, 5, fresh())
	propose(t, r, 8)
	for _, x := range []struct{ from, index, want int }{{1, 7, 0}, {2, 3, 3}, {3, 5, 5}, {4, 6, 6}, {2, 4, 6}, {3, 9, 7}, {4, 8, 8}, {1, 9, 9}} {
		have(r, x.from, x.index)
		if got := stateOf(r).commit; got != x.want {
			t.Errorf("%d has %d: commit %d, want %d", x.from, x.index, got, x.want)
		}
	}
}

// TestCommitsOfOwnTermAlone: an older entry is committed with one of its own term behind it, not ahead of that.
func TestCommitsOfOwnTermAlone(t *testing.T) {
	r := leader(t, 3, hardOf(4, 1, 4, 4))
	for index := 1; index < 4; index++ {
		have(r, 1, index)
		have(r, 2, index)
		wantState(t, "older ones", r, state{api.Leader, 5, 0, 0, 4})
	}
	r.Take()
	have(r, 2, 4)
	wantState(t, "one of its own", r, state{api.Leader, 5, 0, 4, 4})
	var want []api.Commit
	for i := 1; i < 4; i++ {
		want = append(want, api.Commit{Index: i, Data: []byte("e" + strconv.Itoa(i))})
	}
	if x := r.Take(); told(api.Ready{Commits: x.Commits}) != told(api.Ready{Commits: append(want, api.Commit{Index: 4})}) {
		t.Errorf("told: %+v", x.Commits)
	}
	// All behind it must be, too: here one of its term stands ahead of another.
	r = leader(t, 3, hardOf(4, 5, 4, 5))
	have(r, 1, 1)
	have(r, 2, 1)
	wantState(t, "another one behind it", r, state{api.Leader, 5, 0, 0, 4})
	have(r, 1, 3)
	wantState(t, "no other one behind it", r, state{api.Leader, 5, 0, 3, 4})
}

// TestCommitRoseFeedsAllOthers: also those that have all, so that they know of it.
func TestCommitRoseFeedsAllOthers(t *testing.T) {
	r := leader(t, 3, fresh())
	have(r, 2, 1)
	entry := api.Entry{Term: 1}
	wantTaken(t, "commit rose", r, api.Ready{
		Commits: []api.Commit{{Index: 1}},
		Msgs: []api.RMsg{
			{Kind: api.RAppend, To: 1, Term: 1, Commit: 1, Entries: []api.Entry{entry}},
			{Kind: api.RAppend, To: 2, Term: 1, Index: 1, LogTerm: 1, Commit: 1},
		},
	})
	have(r, 1, 1)
	wantTaken(t, "it hasn't risen", r, api.Ready{})
}

// P12.7: Take and Compact.

// TestTakeOnce: of all that is told, whatever was taken before.
func TestTakeOnce(t *testing.T) {
	r := leader(t, 1, snapOf(1, 2, 1, 1))
	wantTaken(t, "taken", r, api.Ready{})
	propose(t, r, 3)
	x := r.Take()
	if !x.Save || x.Restore || len(x.Commits) != 3 || x.Commits[0].Index != 5 || len(x.Hard.Log) != 5 {
		t.Errorf("three more: %s", told(x))
	}
	wantTaken(t, "taken", r, api.Ready{})
	wantTaken(t, "taken", r, api.Ready{})
}

// TestTakeGathers: what several calls want done is told at once, with Hard as it is then.
func TestTakeGathers(t *testing.T) {
	r := newNode(t, 0, 3, snapOf(1, 2, 1, 1))
	r.Step(api.RMsg{Kind: api.RVote, From: 2, Term: 2, Index: 3, LogTerm: 1})
	r.Step(api.RMsg{Kind: api.RAppend, From: 2, Term: 2, Index: 3, LogTerm: 1, Commit: 4, Entries: logOf(3, 2)})
	r.Step(api.RMsg{Kind: api.RVote, From: 1, Term: 3, Index: 3, LogTerm: 2})
	hard := snapOf(3, 2, 1, 1, 2)
	wantTaken(t, "three calls", r, api.Ready{
		Save: true, Hard: hard, Restore: true, Snap: hard.Snap,
		Commits: []api.Commit{{Index: 3, Data: []byte("e3")}, {Index: 4, Data: []byte("e4")}},
		Msgs: []api.RMsg{
			{Kind: api.RVoted, To: 2, Term: 2},
			{Kind: api.RAppended, To: 2, Term: 2, Index: 4},
			{Kind: api.RVoted, To: 1, Term: 3, Reject: true},
		},
	})
}

func TestCompact(t *testing.T) {
	for index := -1; index <= 6; index++ {
		r := fed(t, snapOf(5, 2, 1, 3, 4, 5, 5), api.RMsg{Index: 5, LogTerm: 5, Commit: 5})
		e := r.Compact(index, []byte("s"))
		if e != api.ErrArg {
			t.Errorf("ahead of a Take: Compact(%d) = %d", index, e)
		}
		r.Take()
		e = r.Compact(index, []byte("s"))
		if index <= 2 || index > 5 {
			if e != api.ErrArg {
				t.Errorf("Compact(%d) = %d", index, e)
			}
			wantTaken(t, "refused", r, api.Ready{})
			wantState(t, "refused", r, state{api.Follower, 5, 1, 5, 6})
			continue
		}
		if e != api.OK {
			t.Errorf("Compact(%d) = %d", index, e)
		}
		hard := api.Hard{Term: 5, Vote: -1, Base: index, BaseTerm: index, Snap: []byte("s"), Log: logOf(2, 3, 4, 5, 5)[index-2:]}
		wantSaved(t, "compacted", r, hard)
		wantState(t, "compacted", r, state{api.Follower, 5, 1, 5, 6})
		if e := r.Compact(index, []byte("s")); e != api.ErrArg {
			t.Errorf("once more: Compact(%d) = %d", index, e)
		}
		// What was committed goes on behind it.
		step(r, api.RMsg{Index: 6, LogTerm: 5, Commit: 6})
		wantTaken(t, "goes on", r, api.Ready{Commits: []api.Commit{{Index: 6, Data: []byte("e6")}}, Msgs: []api.RMsg{appended(6, false)}})
	}
}

func TestCompactOfNumbers(t *testing.T) {
	r := leader(t, 1, fresh())
	for _, index := range []int{math.MinInt, -1, 0, 2, math.MaxInt} {
		if e := r.Compact(index, nil); e != api.ErrArg {
			t.Errorf("Compact(%d) = %d", index, e)
		}
	}
	// The whole log, by a snapshot without bytes, and by one of many.
	if e := r.Compact(1, nil); e != api.OK {
		t.Errorf("Compact = %d", e)
	}
	wantSaved(t, "the whole log", r, api.Hard{Term: 1, Base: 1, BaseTerm: 1})
	propose(t, r, 1)
	r.Take()
	if e := r.Compact(2, make([]byte, 5000)); e != api.OK {
		t.Errorf("Compact = %d", e)
	}
	propose(t, r, 1)
	wantState(t, "goes on", r, state{api.Leader, 1, 0, 3, 3})
}

// TestCompactOfALeader: who is behind gets the snapshot from then on, and what was to be sent already stays as it was.
func TestCompactOfALeader(t *testing.T) {
	r := leader(t, 3, fresh())
	propose(t, r, 3)
	have(r, 1, 4)
	r.Take()
	r.Tick(0)
	if e := r.Compact(3, []byte("s")); e != api.OK {
		t.Errorf("Compact = %d", e)
	}
	r.Tick(0)
	row := append([]api.Entry{{Term: 1}}, logOf(1, 1, 1, 1)...)
	one := api.RMsg{Kind: api.RAppend, To: 1, Term: 1, Index: 4, LogTerm: 1, Commit: 4}
	wantSaved(t, "compacted", r, api.Hard{Term: 1, Base: 3, BaseTerm: 1, Snap: []byte("s"), Log: row[3:]},
		one, api.RMsg{Kind: api.RAppend, To: 2, Term: 1, Commit: 4, Entries: row},
		one, api.RMsg{Kind: api.RSnap, To: 2, Term: 1, Index: 3, LogTerm: 1, Commit: 4, Snap: []byte("s")})
}
