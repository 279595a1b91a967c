package txn

import (
	"fmt"
	"math"
	"testing"

	"penstock/api"
)

// The records, by what their kinds name.
func initRec(n, inc int, pid uint64, epoch int) api.TxRec {
	return api.TxRec{Kind: api.TInit, Tx: n, Inc: inc, Pid: pid, Epoch: epoch}
}

func addRec(n int, parts ...int) api.TxRec {
	return api.TxRec{Kind: api.TAdd, Tx: n, Parts: parts}
}

func prepRec(n int, commit bool) api.TxRec {
	return api.TxRec{Kind: api.TPrep, Tx: n, Commit: commit}
}

func doneRec(n int) api.TxRec {
	return api.TxRec{Kind: api.TDone, Tx: n}
}

// stateOf knows what these records say.
func stateOf(list ...api.TxRec) *State {
	s := New()
	for _, r := range list {
		s.Apply(r)
	}
	return s
}

// empty, ongoing, prepared and complete are records behind which the name n is in that state, with the incarnation 4, the producer 7 and the epoch 10 (of the complete one: 12).
func empty(n int) []api.TxRec {
	return []api.TxRec{initRec(n, 4, 7, 10)}
}

func ongoing(n int) []api.TxRec {
	return append(empty(n), addRec(n, 2))
}

func prepared(n int, commit bool) []api.TxRec {
	return append(ongoing(n), prepRec(n, commit))
}

func complete(n int, commit bool) []api.TxRec {
	return append(prepared(n, commit), doneRec(n))
}

// again is a second transaction, of the epoch 12, behind one that has ended.
func again(n int, commit bool) []api.TxRec {
	return append(complete(n, commit), addRec(n, 3))
}

// textOf is all that a state tells, as a text in which a nil list and an empty one are one.
func textOf(s *State) string {
	text := fmt.Sprint(s.Names())
	for _, n := range s.Names() {
		text += fmt.Sprintf("\n%d: %+v", n, s.Tx(n))
	}
	return text
}

func wantTx(t *testing.T, what string, s *State, n int, want api.Tx) {
	t.Helper()
	if got := s.Tx(n); fmt.Sprint(got) != fmt.Sprint(want) {
		t.Errorf("%s: Tx(%d) = %+v, want %+v", what, n, got, want)
	}
}

func wantNames(t *testing.T, what string, s *State, want ...int) {
	t.Helper()
	if got := s.Names(); fmt.Sprint(got) != fmt.Sprint(want) {
		t.Errorf("%s: Names() = %d, want %d", what, got, want)
	}
}

// answer is what Init, Add and End tell.
type answer struct {
	r  api.TxRec
	ok bool
	e  api.Errno
}

func told(r api.TxRec, ok bool, e api.Errno) answer {
	return answer{r, ok, e}
}

// record is an answer with one, and without is one without.
func record(r api.TxRec) answer {
	return answer{r: r, ok: true}
}

func without(e api.Errno) answer {
	return answer{e: e}
}

func (a answer) same(b answer) bool {
	return fmt.Sprint(a) == fmt.Sprint(b)
}

// wantTold: that is answered by a call of a state, which it doesn't change.
func wantTold(t *testing.T, what string, s *State, call func() answer, want answer) {
	t.Helper()
	before := textOf(s)
	if got := call(); !got.same(want) {
		t.Errorf("%s = %+v, want %+v", what, got, want)
	}
	if after := textOf(s); after != before {
		t.Errorf("%s has changed\n%s\nto\n%s", what, before, after)
	}
}

func wantInit(t *testing.T, what string, s *State, n, inc int, pid uint64, want answer) {
	t.Helper()
	wantTold(t, fmt.Sprintf("%s: Init(%d, %d, %d)", what, n, inc, pid), s, func() answer {
		return told(s.Init(n, inc, pid))
	}, want)
}

func wantAdd(t *testing.T, what string, s *State, n int, pid uint64, epoch, part int, want answer) {
	t.Helper()
	wantTold(t, fmt.Sprintf("%s: Add(%d, %d, %d, %d)", what, n, pid, epoch, part), s, func() answer {
		return told(s.Add(n, pid, epoch, part))
	}, want)
}

func wantEnd(t *testing.T, what string, s *State, n int, pid uint64, epoch int, commit bool, want answer) {
	t.Helper()
	wantTold(t, fmt.Sprintf("%s: End(%d, %d, %d, %v)", what, n, pid, epoch, commit), s, func() answer {
		return told(s.End(n, pid, epoch, commit))
	}, want)
}

// outside are numbers that name none of n.
func outside(n int) []int {
	return []int{-1, n, n + 1, math.MinInt, math.MaxInt}
}
