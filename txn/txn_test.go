package txn

import (
	"fmt"
	"math"
	"slices"
	"testing"

	"penstock/api"
)

func TestExamples(t *testing.T) {
	s := New()
	apply := func(r api.TxRec, ok bool, e api.Errno) {
		t.Helper()
		if !ok || e != api.OK {
			t.Errorf("%+v, %v, %d: no record", r, ok, e)
		}
		s.Apply(r)
	}
	wantInit(t, "the first example", s, 0, 1, 5, record(initRec(0, 1, 5, 0)))
	apply(s.Init(0, 1, 5))
	wantAdd(t, "the first example", s, 0, 5, 0, 2, record(addRec(0, 2)))
	apply(s.Add(0, 5, 0, 2))
	wantInit(t, "the second example", s, 0, 2, 0, answer{prepRec(0, false), true, api.ErrBusy})
	wantEnd(t, "the first example", s, 0, 5, 0, true, record(prepRec(0, true)))
	apply(s.End(0, 5, 0, true))
	wantEnd(t, "the first example, again", s, 0, 5, 0, true, without(api.ErrBusy))
	s.Apply(doneRec(0))
	wantEnd(t, "the first example, behind TDone", s, 0, 5, 0, true, without(api.OK))
	wantAdd(t, "the first example, behind TDone", s, 0, 5, 0, 2, without(api.ErrFenced))
	wantTx(t, "the first example", s, 0, api.Tx{State: api.TxComplete, Inc: 1, Pid: 5, Epoch: 2, Last: 0, LastPid: 5, Commit: true})
}

// P15.2: Tx, Names, Apply.

func TestNothingKnown(t *testing.T) {
	for what, s := range map[string]*State{"New": New(), "the zero State": {}, "another name is known": stateOf(empty(2)...)} {
		for _, n := range append(outside(api.MaxTxs), 0, 1, 3, 7) {
			wantTx(t, what, s, n, api.Tx{Last: -1})
		}
	}
	wantNames(t, "New", New())
	wantNames(t, "the zero State", &State{})
	wantNames(t, "another name is known", stateOf(empty(2)...), 2)
}

func TestZeroStateIsReady(t *testing.T) {
	var s State
	s.Apply(initRec(3, 1, 2, 0))
	wantTx(t, "TInit", &s, 3, api.Tx{State: api.TxEmpty, Inc: 1, Pid: 2, Last: -1})
}

func TestApplyByKind(t *testing.T) {
	for _, n := range []int{0, 3, 7} {
		for _, commit := range []bool{false, true} {
			s := stateOf(empty(n)...)
			wantTx(t, "TInit", s, n, api.Tx{State: api.TxEmpty, Inc: 4, Pid: 7, Epoch: 10, Last: -1})
			s.Apply(addRec(n, 5))
			wantTx(t, "TAdd", s, n, api.Tx{State: api.TxOngoing, Inc: 4, Pid: 7, Epoch: 10, Parts: []int{5}, Last: -1})
			s.Apply(addRec(n, 2))
			wantTx(t, "TAdd, below", s, n, api.Tx{State: api.TxOngoing, Inc: 4, Pid: 7, Epoch: 10, Parts: []int{2, 5}, Last: -1})
			s.Apply(prepRec(n, commit))
			wantTx(t, "TPrep", s, n, api.Tx{State: api.TxPrepared, Inc: 4, Pid: 7, Epoch: 10, Parts: []int{2, 5}, Last: 10, LastPid: 7, Commit: commit})
			s.Apply(doneRec(n))
			wantTx(t, "TDone", s, n, api.Tx{State: api.TxComplete, Inc: 4, Pid: 7, Epoch: 12, Last: 10, LastPid: 7, Commit: commit})
			s.Apply(initRec(n, 6, 9, 0))
			wantTx(t, "TInit again", s, n, api.Tx{State: api.TxEmpty, Inc: 6, Pid: 9, Last: 10, LastPid: 7, Commit: commit})
			s.Apply(addRec(n, 0))
			wantTx(t, "TAdd again", s, n, api.Tx{State: api.TxOngoing, Inc: 6, Pid: 9, Parts: []int{0}, Last: 10, LastPid: 7, Commit: commit})
			s.Apply(prepRec(n, !commit))
			wantTx(t, "TPrep again", s, n, api.Tx{State: api.TxPrepared, Inc: 6, Pid: 9, Parts: []int{0}, Last: 0, LastPid: 9, Commit: !commit})
			wantNames(t, "one name", s, n)
		}
	}
}

func TestInitLetsPartsGo(t *testing.T) {
	s := stateOf(append(ongoing(1), initRec(1, 5, 8, 3))...)
	wantTx(t, "TInit amid a transaction", s, 1, api.Tx{State: api.TxEmpty, Inc: 5, Pid: 8, Epoch: 3, Last: -1})
}

func TestPartsRiseEachOnce(t *testing.T) {
	for what, lists := range map[string][][]int{
		"one by one":          {{3}, {1}, {4}, {1}, {0}},
		"all at once":         {{4, 3, 1, 0}},
		"twice in one record": {{1, 1, 0, 4}, {4, 3, 3}},
		"with none":           {nil, {0, 1}, {}, {3, 4}},
	} {
		s := New()
		for _, list := range lists {
			s.Apply(addRec(6, list...))
		}
		wantTx(t, what, s, 6, api.Tx{State: api.TxOngoing, Parts: []int{0, 1, 3, 4}, Last: -1})
	}
	wantTx(t, "no Parts", stateOf(addRec(6)), 6, api.Tx{State: api.TxOngoing, Last: -1})
	wantTx(t, "not checked", stateOf(addRec(6, 9, -4, math.MaxInt, 0, 1, 2, 3)), 6,
		api.Tx{State: api.TxOngoing, Parts: []int{-4, 0, 1, 2, 3, 9, math.MaxInt}, Last: -1})
}

// What a kind doesn't name has no effect: above all the Epoch and Pid of a TPrep, which are the name's, not the record's.
func TestOnlyWhatAKindNames(t *testing.T) {
	full := api.TxRec{Tx: 1, Inc: 90, Pid: 91, Epoch: 92, Parts: []int{3}, Commit: true}
	behind := func(list []api.TxRec, kind int) *State {
		r := full
		r.Kind = kind
		return stateOf(append(list, r)...)
	}
	wantTx(t, "TInit", behind(nil, api.TInit), 1, api.Tx{State: api.TxEmpty, Inc: 90, Pid: 91, Epoch: 92, Last: -1})
	wantTx(t, "TAdd", behind(empty(1), api.TAdd), 1, api.Tx{State: api.TxOngoing, Inc: 4, Pid: 7, Epoch: 10, Parts: []int{3}, Last: -1})
	wantTx(t, "TPrep", behind(ongoing(1), api.TPrep), 1,
		api.Tx{State: api.TxPrepared, Inc: 4, Pid: 7, Epoch: 10, Parts: []int{2}, Last: 10, LastPid: 7, Commit: true})
	wantTx(t, "TDone", behind(prepared(1, false), api.TDone), 1,
		api.Tx{State: api.TxComplete, Inc: 4, Pid: 7, Epoch: 12, Last: 10, LastPid: 7})
}

func TestFirstRecordOfAnyKind(t *testing.T) {
	wantTx(t, "TAdd", stateOf(addRec(2, 1)), 2, api.Tx{State: api.TxOngoing, Parts: []int{1}, Last: -1})
	wantTx(t, "TPrep", stateOf(prepRec(2, true)), 2, api.Tx{State: api.TxPrepared, Commit: true})
	wantTx(t, "TDone", stateOf(doneRec(2)), 2, api.Tx{State: api.TxComplete, Epoch: 1, Last: -1})
	for _, kind := range []int{math.MinInt, -1, 0, 5, math.MaxInt} {
		s := stateOf(api.TxRec{Kind: kind, Tx: 2, Inc: 3, Pid: 4, Epoch: 5, Parts: []int{1}, Commit: true})
		wantTx(t, "no kind", s, 2, api.Tx{Last: -1})
		wantNames(t, "no kind", s, 2)
		s = stateOf(append(ongoing(2), api.TxRec{Kind: kind, Tx: 2, Inc: 3, Pid: 4, Epoch: 5, Parts: []int{1}, Commit: true})...)
		wantTx(t, "no kind, amid a transaction", s, 2, stateOf(ongoing(2)...).Tx(2))
	}
}

func TestNamesRise(t *testing.T) {
	s := New()
	for _, n := range []int{5, 0, 7, 3, 5, 0} {
		s.Apply(addRec(n, 0))
	}
	wantNames(t, "valid names", s, 0, 3, 5, 7)
	// What is applied isn't checked.
	s.Apply(doneRec(-2))
	s.Apply(initRec(100, 1, 1, 0))
	s.Apply(prepRec(math.MaxInt, true))
	s.Apply(api.TxRec{Kind: 77, Tx: math.MinInt})
	wantNames(t, "others", s, math.MinInt, -2, 0, 3, 5, 7, 100, math.MaxInt)
	wantTx(t, "another one", s, 100, api.Tx{State: api.TxEmpty, Inc: 1, Pid: 1, Last: -1})
}

func TestNamesAreApart(t *testing.T) {
	s := New()
	for n := range api.MaxTxs {
		s.Apply(initRec(n, n, uint64(n+1), 2*n))
		s.Apply(addRec(n, n%6))
	}
	s.Apply(prepRec(4, true))
	s.Apply(doneRec(4))
	for n := range api.MaxTxs {
		want := api.Tx{State: api.TxOngoing, Inc: n, Pid: uint64(n + 1), Epoch: 2 * n, Parts: []int{n % 6}, Last: -1}
		if n == 4 {
			want = api.Tx{State: api.TxComplete, Inc: 4, Pid: 5, Epoch: 10, Last: 8, LastPid: 5, Commit: true}
		}
		wantTx(t, "each by itself", s, n, want)
	}
}

func TestEpochsGoRound(t *testing.T) {
	s := stateOf(initRec(0, 1, 5, math.MaxInt-1), addRec(0, 1), prepRec(0, true), doneRec(0))
	wantTx(t, "TDone", s, 0, api.Tx{State: api.TxComplete, Inc: 1, Pid: 5, Epoch: math.MinInt, Last: math.MaxInt - 1, LastPid: 5, Commit: true})
}

func TestNil(t *testing.T) {
	var s *State
	s.Apply(initRec(0, 1, 2, 3))
	wantTx(t, "nil", s, 0, api.Tx{})
	wantTx(t, "nil", s, -1, api.Tx{})
	wantNames(t, "nil", s)
	for _, n := range []int{0, 7, 8, -1} {
		for what, got := range map[string]answer{
			"Init": told(s.Init(n, 1, 5)),
			"Add":  told(s.Add(n, 5, 0, n)),
			"End":  told(s.End(n, 5, 0, true)),
		} {
			if !got.same(without(api.ErrState)) {
				t.Errorf("%s of nil = %+v", what, got)
			}
		}
	}
}

func TestStateSharesNothing(t *testing.T) {
	parts := []int{4, 1, 3, 1, 77, 78}[:4]
	r := api.TxRec{Kind: api.TAdd, Parts: parts}
	s := stateOf(r)
	if got := fmt.Sprint(parts[:6]); got != "[4 1 3 1 77 78]" {
		t.Errorf("Apply has changed the list to %s", got)
	}
	clear(parts)
	want := api.Tx{State: api.TxOngoing, Parts: []int{1, 3, 4}, Last: -1}
	wantTx(t, "the record's list has changed", s, 0, want)
	x, y := s.Tx(0), s.Tx(0)
	clear(x.Parts[:cap(x.Parts)])
	wantTx(t, "an answer has changed", s, 0, want)
	if !slices.Equal(y.Parts, want.Parts) {
		t.Errorf("two answers share memory: %d", y.Parts)
	}
	s.Apply(addRec(0, 0))
	if !slices.Equal(y.Parts, want.Parts) {
		t.Errorf("Apply has changed an answer: %d", y.Parts)
	}
	names := s.Names()
	names[0] = 9
	wantNames(t, "an answer has changed", s, 0)
	a, _, _ := s.Add(0, 0, 0, 5)
	s.Apply(a)
	a.Parts[0] = 9
	b, _, _ := s.Add(0, 0, 0, 2)
	wantTx(t, "an answered record has changed", s, 0, api.Tx{State: api.TxOngoing, Parts: []int{0, 1, 3, 4, 5}, Last: -1})
	if !slices.Equal(b.Parts, []int{2}) {
		t.Errorf("Add(.., 2) = %+v", b)
	}
}
