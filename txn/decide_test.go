package txn

import (
	"math"
	"testing"

	"penstock/api"
)

// P15.3: Init, Add, End.

// all are the states that a name may be in, by what was applied.
func all(n int) map[string][]api.TxRec {
	return map[string][]api.TxRec{
		"none":              nil,
		"known, but none":   {{Kind: 9, Tx: n, Inc: 9, Pid: 7, Epoch: 10}},
		"empty":             empty(n),
		"ongoing":           ongoing(n),
		"prepared, commit":  prepared(n, true),
		"prepared, abort":   prepared(n, false),
		"complete, commit":  complete(n, true),
		"complete, abort":   complete(n, false),
		"a second one":      again(n, true),
		"a second prepared": append(again(n, true), prepRec(n, false)),
	}
}

func TestNoSuchName(t *testing.T) {
	for what, list := range all(0) {
		s := stateOf(list...)
		for _, n := range outside(api.MaxTxs) {
			// Even of one that is known, since Apply checks nothing.
			for _, r := range []api.TxRec{initRec(n, 4, 7, 10), addRec(n, 2)} {
				wantInit(t, what, s, n, 4, 5, without(api.ErrArg))
				wantInit(t, what, s, n, 9, 0, without(api.ErrArg))
				wantAdd(t, what, s, n, 7, 10, 1, without(api.ErrArg))
				wantAdd(t, what, s, n, 7, 10, 9, without(api.ErrArg))
				wantEnd(t, what, s, n, 7, 10, true, without(api.ErrArg))
				wantEnd(t, what, s, n, 8, 10, false, without(api.ErrArg))
				s.Apply(r)
			}
		}
	}
}

func TestInitOfNone(t *testing.T) {
	for _, what := range []string{"none", "known, but none"} {
		for n := range api.MaxTxs {
			s := stateOf(all(n)[what]...)
			for _, inc := range []int{math.MinInt, -1, 0, 1, 9, math.MaxInt} {
				wantInit(t, what, s, n, inc, 0, without(api.ErrBusy))
				wantInit(t, what, s, n, inc, 1, record(initRec(n, inc, 1, 0)))
				wantInit(t, what, s, n, inc, math.MaxUint64, record(initRec(n, inc, math.MaxUint64, 0)))
			}
		}
	}
}

// An older incarnation is fenced off in every state but TxNone, ahead of all else.
func TestInitOfAnOlderOne(t *testing.T) {
	for what, list := range all(3) {
		if s := stateOf(list...); s.Tx(3).State != api.TxNone {
			for _, inc := range []int{3, 0, -1, math.MinInt} {
				wantInit(t, what, s, 3, inc, 0, without(api.ErrFenced))
				wantInit(t, what, s, 3, inc, 5, without(api.ErrFenced))
			}
		}
	}
}

func TestInitOfTheSameOne(t *testing.T) {
	for what, list := range all(3) {
		s := stateOf(list...)
		want := without(api.OK)
		switch s.Tx(3).State {
		case api.TxNone:
			continue
		case api.TxPrepared:
			want = without(api.ErrBusy)
		}
		wantInit(t, what, s, 3, 4, 0, want)
		wantInit(t, what, s, 3, 4, 5, want)
	}
	// Even where its epochs are spent.
	s := stateOf(initRec(3, 4, 7, 998), addRec(3, 1), prepRec(3, true), doneRec(3))
	wantInit(t, "spent", s, 3, 4, 0, without(api.OK))
	wantInit(t, "spent", s, 3, 4, 5, without(api.OK))
}

func TestInitOfANewerOne(t *testing.T) {
	for _, pid := range []uint64{0, 5} {
		for _, inc := range []int{5, 6, math.MaxInt} {
			wantInit(t, "empty", stateOf(empty(3)...), 3, inc, pid, record(initRec(3, inc, 7, 12)))
			wantInit(t, "ongoing", stateOf(ongoing(3)...), 3, inc, pid, answer{prepRec(3, false), true, api.ErrBusy})
			wantInit(t, "a second one", stateOf(again(3, true)...), 3, inc, pid, answer{prepRec(3, false), true, api.ErrBusy})
			for _, commit := range []bool{false, true} {
				wantInit(t, "prepared", stateOf(prepared(3, commit)...), 3, inc, pid, without(api.ErrBusy))
				wantInit(t, "complete", stateOf(complete(3, commit)...), 3, inc, pid, record(initRec(3, inc, 7, 14)))
			}
		}
	}
}

func TestInitWithSpentEpochs(t *testing.T) {
	for _, epoch := range []int{0, 1, 994, 995, 996} {
		s := stateOf(initRec(2, 4, 7, epoch))
		wantInit(t, "not yet spent", s, 2, 5, 0, record(initRec(2, 5, 7, epoch+2)))
		wantInit(t, "not yet spent", s, 2, 5, 8, record(initRec(2, 5, 7, epoch+2)))
	}
	for _, epoch := range []int{997, 998, 999, 1000, math.MaxInt - 2} {
		s := stateOf(initRec(2, 4, 7, epoch))
		wantInit(t, "spent", s, 2, 5, 0, without(api.ErrBusy))
		wantInit(t, "spent", s, 2, 5, 8, record(initRec(2, 5, 8, 0)))
	}
	s := stateOf(initRec(2, 4, 7, 996), addRec(2, 1), prepRec(2, true), doneRec(2))
	wantInit(t, "spent by a transaction", s, 2, 5, 0, without(api.ErrBusy))
	wantInit(t, "spent by a transaction", s, 2, 5, 8, record(initRec(2, 5, 8, 0)))
	// What is open, or not yet ended, comes first.
	s = stateOf(initRec(2, 4, 7, 998), addRec(2, 1))
	wantInit(t, "spent, ongoing", s, 2, 5, 8, answer{prepRec(2, false), true, api.ErrBusy})
	s.Apply(prepRec(2, false))
	wantInit(t, "spent, prepared", s, 2, 5, 8, without(api.ErrBusy))
	s = stateOf(initRec(2, 4, 7, math.MaxInt))
	wantInit(t, "sums go round", s, 2, 5, 8, record(initRec(2, 5, 7, math.MinInt+1)))
}

func TestAddOfNoPartition(t *testing.T) {
	for what, list := range all(3) {
		s := stateOf(list...)
		for _, part := range outside(6) {
			wantAdd(t, what, s, 3, 7, 10, part, without(api.ErrArg))
			wantAdd(t, what, s, 3, 8, 10, part, without(api.ErrArg))
			wantAdd(t, what, s, 3, 7, 12, part, without(api.ErrArg))
		}
	}
	// Even of one that is among Parts, since Apply checks nothing.
	wantAdd(t, "among Parts", stateOf(initRec(3, 4, 7, 10), addRec(3, 6)), 3, 7, 10, 6, without(api.ErrArg))
}

func TestAddOfAnother(t *testing.T) {
	for what, list := range all(3) {
		s := stateOf(list...)
		epoch := s.Tx(3).Epoch
		for part := range 6 {
			for _, pid := range []uint64{0, 6, 8, math.MaxUint64} {
				wantAdd(t, what, s, 3, pid, epoch, part, without(api.ErrFenced))
			}
			for _, other := range []int{epoch - 1, epoch + 1, epoch + 2, -1, 999, 1000, math.MinInt, math.MaxInt} {
				wantAdd(t, what, s, 3, 7, other, part, without(api.ErrFenced))
			}
		}
	}
	for _, what := range []string{"none", "known, but none"} {
		s := stateOf(all(3)[what]...)
		wantAdd(t, what, s, 3, 0, 0, 1, without(api.ErrFenced))
		wantAdd(t, what, s, 3, 7, 10, 1, without(api.ErrFenced))
		wantAdd(t, what, s, 3, 7, -1, 1, without(api.ErrFenced))
	}
}

func TestAdd(t *testing.T) {
	for part := range 6 {
		wantAdd(t, "empty", stateOf(empty(3)...), 3, 7, 10, part, record(addRec(3, part)))
		for _, commit := range []bool{false, true} {
			wantAdd(t, "prepared", stateOf(prepared(3, commit)...), 3, 7, 10, part, without(api.ErrBusy))
			// The partitions of the one ahead are of no account.
			wantAdd(t, "complete", stateOf(complete(3, commit)...), 3, 7, 12, part, record(addRec(3, part)))
			wantAdd(t, "complete, its epoch", stateOf(complete(3, commit)...), 3, 7, 10, part, without(api.ErrFenced))
		}
		want := record(addRec(3, part))
		if part == 2 {
			want = without(api.OK)
		}
		wantAdd(t, "ongoing", stateOf(ongoing(3)...), 3, 7, 10, part, want)
	}
	s := stateOf(append(empty(3), addRec(3, 0, 1, 2, 3, 4, 5))...)
	for part := range 6 {
		wantAdd(t, "all of them", s, 3, 7, 10, part, without(api.OK))
	}
}

func TestAddWithSpentEpochs(t *testing.T) {
	for _, epoch := range []int{-1, 0, 997, 998} {
		wantAdd(t, "not yet spent", stateOf(initRec(1, 1, 7, epoch)), 1, 7, epoch, 0, record(addRec(1, 0)))
	}
	for _, epoch := range []int{999, 1000, math.MaxInt} {
		s := stateOf(initRec(1, 1, 7, epoch))
		wantAdd(t, "spent", s, 1, 7, epoch, 0, without(api.ErrSpent))
		wantAdd(t, "spent, another producer", s, 1, 8, epoch, 0, without(api.ErrFenced))
		s.Apply(addRec(1, 0))
		wantAdd(t, "spent, among Parts", s, 1, 7, epoch, 0, without(api.ErrSpent))
		s.Apply(prepRec(1, true))
		wantAdd(t, "spent, prepared", s, 1, 7, epoch, 0, without(api.ErrBusy))
	}
	s := stateOf(initRec(1, 1, 7, 998), addRec(1, 0), prepRec(1, true), doneRec(1))
	wantAdd(t, "spent by a transaction", s, 1, 7, 1000, 0, without(api.ErrSpent))
}

func TestEndOfAnother(t *testing.T) {
	for _, commit := range []bool{false, true} {
		for what, list := range all(3) {
			s := stateOf(list...)
			x := s.Tx(3)
			for _, pid := range []uint64{0, 6, 8, math.MaxUint64} {
				wantEnd(t, what, s, 3, pid, x.Epoch, commit, without(api.ErrFenced))
				wantEnd(t, what, s, 3, pid, x.Last, commit, without(api.ErrFenced))
			}
			for _, epoch := range []int{-1, 8, 9, 11, 13, 14, 999, math.MinInt, math.MaxInt} {
				wantEnd(t, what, s, 3, 7, epoch, commit, without(api.ErrFenced))
			}
		}
		for _, what := range []string{"none", "known, but none"} {
			s := stateOf(all(3)[what]...)
			wantEnd(t, what, s, 3, 0, 0, commit, without(api.ErrFenced))
			wantEnd(t, what, s, 3, 0, -1, commit, without(api.ErrFenced))
			wantEnd(t, what, s, 3, 7, 10, commit, without(api.ErrFenced))
		}
	}
}

func TestEnd(t *testing.T) {
	for _, commit := range []bool{false, true} {
		wantEnd(t, "empty", stateOf(empty(3)...), 3, 7, 10, commit, without(api.ErrTxn))
		wantEnd(t, "ongoing", stateOf(ongoing(3)...), 3, 7, 10, commit, record(prepRec(3, commit)))
		wantEnd(t, "prepared", stateOf(prepared(3, commit)...), 3, 7, 10, commit, without(api.ErrBusy))
		wantEnd(t, "prepared otherwise", stateOf(prepared(3, !commit)...), 3, 7, 10, commit, without(api.ErrTxn))
		wantEnd(t, "complete", stateOf(complete(3, commit)...), 3, 7, 10, commit, without(api.OK))
		wantEnd(t, "complete otherwise", stateOf(complete(3, !commit)...), 3, 7, 10, commit, without(api.ErrTxn))
		wantEnd(t, "complete, the next epoch", stateOf(complete(3, commit)...), 3, 7, 12, commit, without(api.ErrTxn))
		for _, last := range []bool{false, true} {
			wantEnd(t, "a second one", stateOf(again(3, last)...), 3, 7, 12, commit, record(prepRec(3, commit)))
		}
	}
}

// An end that was decided is told again while the next transaction is under way, and behind an Init, as long as no other end is.
func TestEndIsToldAgain(t *testing.T) {
	for _, commit := range []bool{false, true} {
		s := stateOf(again(3, commit)...)
		wantEnd(t, "the next one is under way", s, 3, 7, 10, commit, without(api.OK))
		wantEnd(t, "the next one is under way", s, 3, 7, 10, !commit, without(api.ErrTxn))
		s.Apply(prepRec(3, !commit))
		wantEnd(t, "the next one is prepared", s, 3, 7, 10, commit, without(api.ErrFenced))
		wantEnd(t, "the next one is prepared", s, 3, 7, 12, commit, without(api.ErrTxn))

		s = stateOf(append(complete(3, commit), initRec(3, 5, 7, 14))...)
		wantEnd(t, "behind an Init", s, 3, 7, 10, commit, without(api.OK))
		wantEnd(t, "behind an Init", s, 3, 7, 10, !commit, without(api.ErrTxn))
		wantEnd(t, "behind an Init", s, 3, 7, 12, commit, without(api.ErrFenced))
		wantEnd(t, "behind an Init", s, 3, 7, 14, commit, without(api.ErrTxn))

		// Of another producer with the same epoch it was decided, not of this one.
		s = stateOf(append(complete(3, commit), initRec(3, 5, 8, 10))...)
		wantEnd(t, "another producer", s, 3, 7, 10, commit, without(api.ErrFenced))
		wantEnd(t, "another producer", s, 3, 8, 10, commit, without(api.ErrTxn))
		s.Apply(addRec(3, 1))
		wantEnd(t, "another producer", s, 3, 8, 10, commit, record(prepRec(3, commit)))
	}
}
