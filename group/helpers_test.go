package group

import (
	"fmt"
	"math"
	"testing"

	"penstock/api"
)

// The records, by what their kinds name.
func genRec(n, gen int, members ...int) api.GrRec {
	return api.GrRec{Kind: api.GGen, Group: n, Gen: gen, Members: members}
}

func offRec(n, part, offset int) api.GrRec {
	return api.GrRec{Kind: api.GOff, Group: n, Part: part, Offset: offset}
}

// values are records as a batch has them.
func values(list ...api.GrRec) [][]byte {
	var all [][]byte
	for _, r := range list {
		all = append(all, laid(r))
	}
	return all
}

// plain is a batch whose records hold at once, and inTxn one of a transaction.
func plain(list ...api.GrRec) api.Batch {
	return api.Batch{Values: values(list...)}
}

func inTxn(pid uint64, list ...api.GrRec) api.Batch {
	return api.Batch{Pid: pid, Txn: true, Values: values(list...)}
}

// marker ends a producer's transaction; its epoch is one more than that of the records.
func marker(pid uint64, commit bool) api.Batch {
	return api.Batch{Pid: pid, PEpoch: 1, Txn: true, Control: true, Commit: commit}
}

// stateOf knows what these batches say, and holding is a state in which these records hold.
func stateOf(list ...api.Batch) *State {
	s := New()
	for _, b := range list {
		s.Apply(b)
	}
	return s
}

func holding(list ...api.GrRec) *State {
	return stateOf(plain(list...))
}

// textOf is all that a state tells, as a text in which a nil list and an empty one are one.
func textOf(s *State) string {
	text := fmt.Sprint(s.Groups())
	for n := range api.MaxTxs {
		gen, members := s.Team(n)
		text += fmt.Sprintf("\n%d: %d %d", n, gen, members)
		for part := range api.MaxParts {
			offset, e := s.Offset(n, part)
			text += fmt.Sprintf(" %d/%d", offset, e)
		}
	}
	return text
}

func wantGroups(t *testing.T, what string, s *State, want ...int) {
	t.Helper()
	if got := s.Groups(); fmt.Sprint(got) != fmt.Sprint(want) {
		t.Errorf("%s: Groups() = %d, want %d", what, got, want)
	}
}

func wantTeam(t *testing.T, what string, s *State, n, gen int, members ...int) {
	t.Helper()
	if g, list := s.Team(n); g != gen || fmt.Sprint(list) != fmt.Sprint(members) {
		t.Errorf("%s: Team(%d) = %d, %d, want %d, %d", what, n, g, list, gen, members)
	}
}

func wantOffset(t *testing.T, what string, s *State, n, part, want int, wantE api.Errno) {
	t.Helper()
	if got, e := s.Offset(n, part); got != want || e != wantE {
		t.Errorf("%s: Offset(%d, %d) = %d, %d, want %d, %d", what, n, part, got, e, want, wantE)
	}
}

// answer is what Join and Commit tell; of Commit ok is whether there is no error.
type answer struct {
	r  api.GrRec
	ok bool
	e  api.Errno
}

func told(r api.GrRec, ok bool, e api.Errno) answer {
	return answer{r, ok, e}
}

func toldByCommit(r api.GrRec, e api.Errno) answer {
	return answer{r, e == api.OK, e}
}

// record is an answer with one, and without is one without.
func record(r api.GrRec) answer {
	return answer{r: r, ok: true}
}

func without(e api.Errno) answer {
	return answer{e: e}
}

func (a answer) same(b answer) bool {
	return fmt.Sprint(a) == fmt.Sprint(b)
}

// wantTold: that is answered by a call of a state, which it doesn't change.
func wantTold(t *testing.T, what string, s *State, call func() answer, want answer) {
	t.Helper()
	before := textOf(s)
	if got := call(); !got.same(want) {
		t.Errorf("%s = %+v, want %+v", what, got, want)
	}
	if after := textOf(s); after != before {
		t.Errorf("%s has changed\n%s\nto\n%s", what, before, after)
	}
}

func wantJoin(t *testing.T, what string, s *State, n, member int, stay bool, want answer) {
	t.Helper()
	wantTold(t, fmt.Sprintf("%s: Join(%d, %d, %v)", what, n, member, stay), s, func() answer {
		return told(s.Join(n, member, stay))
	}, want)
}

func wantCommit(t *testing.T, what string, s *State, n, member, gen, part, offset int, want answer) {
	t.Helper()
	wantTold(t, fmt.Sprintf("%s: Commit(%d, %d, %d, %d, %d)", what, n, member, gen, part, offset), s, func() answer {
		return toldByCommit(s.Commit(n, member, gen, part, offset))
	}, want)
}

// outside are numbers that name none of n, and below are numbers below 0.
func outside(n int) []int {
	return []int{-1, n, n + 1, math.MinInt, math.MaxInt}
}

func below() []int {
	return []int{-1, -2, math.MinInt}
}
