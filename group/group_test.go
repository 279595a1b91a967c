package group

import (
	"bytes"
	"fmt"
	"math"
	"slices"
	"testing"

	"penstock/api"
)

func TestExamples(t *testing.T) {
	s := New()
	wantJoin(t, "the first example", s, 0, 2, true, record(genRec(0, 1, 2)))
	s.Apply(plain(genRec(0, 1, 2)))
	wantJoin(t, "the first example", s, 0, 1, true, record(genRec(0, 2, 1, 2)))
	if got := Owner([]int{1, 2}, 3); got != 2 {
		t.Errorf("the first example: Owner([1 2], 3) = %d, want 2", got)
	}

	s.Apply(inTxn(3, offRec(0, 0, 5)))
	wantOffset(t, "the second example", s, 0, 0, 0, api.ErrBusy)
	s.Apply(marker(3, true))
	wantOffset(t, "the second example", s, 0, 0, 5, api.OK)
}

// P16.2: Apply; P16.3: Groups, Team, Offset.

func TestNothingKnown(t *testing.T) {
	for what, s := range map[string]*State{
		"New":                    New(),
		"the zero State":         {},
		"a batch without values": stateOf(api.Batch{}, api.Batch{Pid: 3, Txn: true}, marker(3, true), marker(4, false)),
	} {
		wantGroups(t, what, s)
		for _, n := range append(outside(api.MaxTxs), 0, 3, 7) {
			wantTeam(t, what, s, n, 0)
		}
		for n := range api.MaxTxs {
			for _, part := range append(outside(api.MaxParts), 0, 1, 2, 3) {
				wantOffset(t, what, s, n, part, 0, api.OK)
			}
		}
	}
}

func TestZeroStateIsReady(t *testing.T) {
	var s State
	s.Apply(inTxn(1, genRec(2, 4, 1)))
	s.Apply(marker(1, true))
	wantTeam(t, "GGen", &s, 2, 4, 1)
}

func TestOffsetOfNoGroup(t *testing.T) {
	s := holding(offRec(0, 0, 5), offRec(7, 0, 5))
	s.Apply(inTxn(1, offRec(0, 1, 6)))
	for _, n := range outside(api.MaxTxs) {
		for _, part := range []int{-1, 0, 1, 3, 4} {
			wantOffset(t, "no group", s, n, part, 0, api.ErrArg)
		}
	}
}

func TestGenerationsHold(t *testing.T) {
	s := New()
	for _, c := range []struct {
		what    string
		r       api.GrRec
		gen     int
		members []int
	}{
		{"the generation 0 is none above", genRec(3, 0, 1, 2), 0, nil},
		{"the first one", genRec(3, 1, 4), 1, []int{4}},
		{"the same one", genRec(3, 1, 5), 1, []int{4}},
		{"a later one", genRec(3, 7, 0, 9), 7, []int{0, 9}},
		{"an older one", genRec(3, 6, 1), 7, []int{0, 9}},
		{"one without members", genRec(3, 8), 8, nil},
		{"the last one", genRec(3, math.MaxInt, 0, 1, 2, 3, 4, 5, 6, 7), math.MaxInt, []int{0, 1, 2, 3, 4, 5, 6, 7}},
	} {
		s.Apply(plain(c.r))
		wantTeam(t, c.what, s, 3, c.gen, c.members...)
		wantTeam(t, c.what+", another group", s, 2, 0)
		wantGroups(t, c.what, s, 3)
	}
	wantOffset(t, "generations say nothing of offsets", s, 3, 0, 0, api.OK)
}

func TestOffsetsHold(t *testing.T) {
	s := New()
	for _, c := range []struct{ offset, want int }{{0, 0}, {5, 5}, {4, 5}, {5, 5}, {0, 5}, {6, 6}, {math.MaxInt, math.MaxInt}, {7, math.MaxInt}} {
		what := fmt.Sprintf("GOff %d", c.offset)
		s.Apply(plain(offRec(3, 2, c.offset)))
		wantOffset(t, what, s, 3, 2, c.want, api.OK)
		for _, part := range []int{0, 1, 3, 4, -1} {
			wantOffset(t, what, s, 3, part, 0, api.OK)
		}
		wantOffset(t, what, s, 2, 2, 0, api.OK)
		wantGroups(t, what, s, 3)
	}
	wantTeam(t, "offsets say nothing of generations", s, 3, 0)
}

// What a kind doesn't name has no effect.
func TestOnlyWhatAKindNames(t *testing.T) {
	s := holding(api.GrRec{Kind: api.GGen, Group: 1, Gen: 3, Members: []int{2}, Part: 1, Offset: 9})
	wantTeam(t, "GGen", s, 1, 3, 2)
	wantOffset(t, "GGen", s, 1, 1, 0, api.OK)
	s = holding(api.GrRec{Kind: api.GOff, Group: 1, Gen: 3, Members: []int{2}, Part: 1, Offset: 9})
	wantTeam(t, "GOff", s, 1, 0)
	wantOffset(t, "GOff", s, 1, 1, 9, api.OK)
	s = stateOf(inTxn(4, api.GrRec{Kind: api.GGen, Group: 1, Gen: 3, Part: 1, Offset: 9}))
	wantOffset(t, "a GGen waits", s, 1, 1, 0, api.OK)
}

func TestValuesInTheirOrder(t *testing.T) {
	for what, s := range map[string]*State{
		"at once":             holding(genRec(0, 1, 5), genRec(0, 1, 6), genRec(0, 2, 7), genRec(0, 1, 8), offRec(0, 1, 3), offRec(0, 1, 2), genRec(4, 1)),
		"by a transaction":    stateOf(inTxn(9, genRec(0, 1, 5), genRec(0, 1, 6), genRec(0, 2, 7), genRec(0, 1, 8), offRec(0, 1, 3), offRec(0, 1, 2), genRec(4, 1)), marker(9, true)),
		"by several batches":  stateOf(inTxn(9, genRec(0, 2, 7)), inTxn(9, genRec(0, 2, 8), offRec(0, 1, 3)), inTxn(9, genRec(4, 1)), marker(9, true)),
		"by two transactions": stateOf(inTxn(9, genRec(0, 2, 8)), inTxn(8, genRec(0, 2, 7), genRec(4, 1), offRec(0, 1, 3)), marker(8, true), marker(9, true)),
	} {
		wantTeam(t, what, s, 0, 2, 7)
		wantOffset(t, what, s, 0, 1, 3, api.OK)
		wantGroups(t, what, s, 0, 4)
	}
}

func TestValuesThatAreNoRecords(t *testing.T) {
	b := api.Batch{Values: [][]byte{nil, {}, {2}, laid(genRec(1, 1, 2)), append(laid(genRec(1, 5, 3)), 0), []byte("text"), laid(genRec(2, 1, 2))[:5]}}
	for _, r := range noRecords() {
		b.Values = append(b.Values, laid(r))
	}
	b.Values = append(b.Values, laid(offRec(3, 1, 4)))
	s := stateOf(b)
	wantGroups(t, "at once", s, 1, 3)
	wantTeam(t, "at once", s, 1, 1, 2)
	wantOffset(t, "at once", s, 3, 1, 4, api.OK)

	b.Pid, b.Txn = 5, true
	s = stateOf(b)
	wantGroups(t, "waiting", s)
	wantOffset(t, "waiting", s, 3, 1, 0, api.ErrBusy)
	s.Apply(marker(5, true))
	wantGroups(t, "committed", s, 1, 3)
	wantTeam(t, "committed", s, 1, 1, 2)
	wantOffset(t, "committed", s, 3, 1, 4, api.OK)
}

func TestTransactionsWait(t *testing.T) {
	s := holding(genRec(1, 3, 4), offRec(1, 0, 5))
	s.Apply(inTxn(7, genRec(1, 4, 6), offRec(1, 0, 9), offRec(2, 3, 1)))
	before := func(what string) {
		t.Helper()
		wantGroups(t, what, s, 1)
		wantTeam(t, what, s, 1, 3, 4)
		wantOffset(t, what, s, 1, 0, 0, api.ErrBusy)
		wantOffset(t, what, s, 2, 3, 0, api.ErrBusy)
		wantOffset(t, what, s, 1, 3, 0, api.OK)
		wantOffset(t, what, s, 2, 0, 0, api.OK)
	}
	before("it waits")
	s.Apply(marker(6, true))
	s.Apply(marker(8, false))
	before("markers of others")
	s.Apply(inTxn(8, offRec(1, 1, 2)))
	s.Apply(marker(8, true))
	before("another one's transaction")
	wantOffset(t, "another one's transaction", s, 1, 1, 2, api.OK)
	s.Apply(api.Batch{Pid: 7, Commit: true, Values: values(offRec(1, 0, 6))})
	before("records of the same producer without a transaction")
	s.Apply(marker(7, true))
	wantGroups(t, "committed", s, 1, 2)
	wantTeam(t, "committed", s, 1, 4, 6)
	wantOffset(t, "committed", s, 1, 0, 9, api.OK)
	wantOffset(t, "committed", s, 2, 3, 1, api.OK)
}

func TestTransactionsThatAbort(t *testing.T) {
	s := holding(genRec(1, 3, 4), offRec(1, 0, 5))
	before := textOf(s)
	s.Apply(inTxn(7, genRec(1, 4, 6), offRec(1, 0, 9)))
	s.Apply(inTxn(7, offRec(2, 3, 1)))
	s.Apply(marker(7, false))
	if after := textOf(s); after != before {
		t.Errorf("behind an abort\n%s\nwant\n%s", after, before)
	}
	// What is gone doesn't come back with the next commit.
	s.Apply(marker(7, true))
	if after := textOf(s); after != before {
		t.Errorf("behind a second marker\n%s\nwant\n%s", after, before)
	}
	s.Apply(inTxn(7, offRec(1, 1, 2)))
	s.Apply(marker(7, true))
	wantOffset(t, "the next transaction", s, 1, 1, 2, api.OK)
	wantOffset(t, "the next transaction", s, 1, 0, 5, api.OK)
	wantGroups(t, "the next transaction", s, 1)
}

// What has held doesn't hold again with the next commit.
func TestTransactionsHoldOnce(t *testing.T) {
	s := stateOf(inTxn(7, offRec(1, 0, 5)), marker(7, true), marker(7, true), inTxn(7, offRec(1, 1, 1)))
	wantOffset(t, "the first one", s, 1, 0, 5, api.OK)
	wantOffset(t, "the second one", s, 1, 1, 0, api.ErrBusy)
	s.Apply(marker(7, false))
	wantOffset(t, "the first one", s, 1, 0, 5, api.OK)
	wantOffset(t, "the second one", s, 1, 1, 0, api.OK)
}

// A waiting offset is one even if it will say nothing new, or stands behind others.
func TestBusyByAnyThatWaits(t *testing.T) {
	s := holding(offRec(1, 0, 5))
	s.Apply(inTxn(7, genRec(1, 1), offRec(1, 1, 1), offRec(1, 0, 2)))
	s.Apply(inTxn(8, offRec(1, 0, 0)))
	wantOffset(t, "two wait", s, 1, 0, 0, api.ErrBusy)
	s.Apply(marker(7, true))
	wantOffset(t, "one waits", s, 1, 0, 0, api.ErrBusy)
	wantOffset(t, "none waits", s, 1, 1, 1, api.OK)
	s.Apply(marker(8, true))
	wantOffset(t, "none waits", s, 1, 0, 5, api.OK)
}

// A producer is known by its number alone, since its markers have another epoch than its records; and what is applied isn't checked.
func TestMarkersOfAnyEpoch(t *testing.T) {
	for _, epoch := range []int{-1, 0, 1, 5, 1000} {
		for _, pid := range []uint64{0, 1, 1000, math.MaxUint64} {
			b := inTxn(pid, offRec(0, 0, 5))
			b.PEpoch, b.Seq, b.Base, b.Epoch = 4, 9, -3, -2
			s := stateOf(b)
			wantOffset(t, "it waits", s, 0, 0, 0, api.ErrBusy)
			s.Apply(api.Batch{Pid: pid, PEpoch: epoch, Control: true, Commit: true})
			wantOffset(t, "a marker", s, 0, 0, 5, api.OK)
		}
	}
}

func TestMarkersHaveNoValues(t *testing.T) {
	b := marker(3, true)
	b.Values = values(offRec(0, 0, 5), genRec(1, 1))
	s := stateOf(b, marker(3, true))
	wantGroups(t, "a marker with values", s)
	b.Txn = false
	s.Apply(b)
	wantGroups(t, "one without Txn", s)
	wantOffset(t, "a marker with values", s, 0, 0, 0, api.OK)
}

func TestGroupsRise(t *testing.T) {
	s := holding(genRec(5, 1), offRec(0, 1, 1), genRec(7, 1), genRec(5, 2), offRec(3, 0, 9), offRec(5, 0, 1))
	wantGroups(t, "several", s, 0, 3, 5, 7)
	s.Apply(inTxn(1, genRec(1, 1)))
	wantGroups(t, "one waits", s, 0, 3, 5, 7)
	// A record that says nothing new holds all the same.
	wantGroups(t, "GGen 0", holding(genRec(4, 0, 1)), 4)
	wantGroups(t, "GOff 0", holding(offRec(6, 0, 0)), 6)
}

func TestNil(t *testing.T) {
	var s *State
	s.Apply(plain(genRec(0, 1, 2)))
	s.Apply(inTxn(1, genRec(0, 1, 2)))
	s.Apply(marker(1, true))
	wantGroups(t, "nil", s)
	wantTeam(t, "nil", s, 0, 0)
	for _, n := range []int{0, 7, 8, -1} {
		wantOffset(t, "nil", s, n, 0, 0, api.ErrState)
		for what, got := range map[string]answer{
			"Join":   told(s.Join(n, n, true)),
			"leave":  told(s.Join(n, n, false)),
			"Commit": toldByCommit(s.Commit(n, n, 0, 0, 0)),
		} {
			if !got.same(without(api.ErrState)) {
				t.Errorf("%s of nil = %+v", what, got)
			}
		}
	}
}

func TestStateSharesNothing(t *testing.T) {
	for _, txn := range []bool{false, true} {
		b := inTxn(3, genRec(0, 2, 1, 4), offRec(0, 0, 5))
		b.Txn = txn
		kept := [][]byte{bytes.Clone(b.Values[0]), bytes.Clone(b.Values[1])}
		s := stateOf(b)
		if !bytes.Equal(b.Values[0], kept[0]) || !bytes.Equal(b.Values[1], kept[1]) {
			t.Errorf("Apply has changed the values to %d", b.Values)
		}
		clear(b.Values[0])
		clear(b.Values[1])
		s.Apply(marker(3, true))
		wantTeam(t, "a value has changed", s, 0, 2, 1, 4)
		_, one := s.Team(0)
		_, two := s.Team(0)
		clear(one[:cap(one)])
		wantTeam(t, "an answer has changed", s, 0, 2, 1, 4)
		if !slices.Equal(two, []int{1, 4}) {
			t.Errorf("two answers share memory: %d", two)
		}
		groups := s.Groups()
		groups[0] = 9
		wantGroups(t, "an answer has changed", s, 0)
		for member, stay := range map[int]bool{0: true, 2: true, 5: true, 1: false, 4: false} {
			r, _, _ := s.Join(0, member, stay)
			clear(r.Members[:cap(r.Members)])
			wantTeam(t, "an answered record has changed", s, 0, 2, 1, 4)
		}
	}
}
