package group

import (
	"fmt"
	"math"
	"slices"
	"testing"

	"penstock/api"
)

// P16.4: Join, Owner, Commit.

// eight are as many members as there may be: 0, 2 .. 14.
func eight() []int {
	var list []int
	for i := range api.MaxMembers {
		list = append(list, 2*i)
	}
	return list
}

func TestJoinOfWrongNumbers(t *testing.T) {
	for what, s := range map[string]*State{"new": New(), "full": holding(genRec(0, 3, eight()...), genRec(7, 3, eight()...))} {
		for _, stay := range []bool{false, true} {
			for _, n := range outside(api.MaxTxs) {
				for _, member := range []int{-1, 0, 1, math.MaxInt} {
					wantJoin(t, what, s, n, member, stay, without(api.ErrArg))
				}
			}
			for _, member := range below() {
				wantJoin(t, what, s, 0, member, stay, without(api.ErrArg))
			}
		}
	}
}

func TestJoin(t *testing.T) {
	for n := range api.MaxTxs {
		for _, member := range []int{0, 3, 8, math.MaxInt} {
			wantJoin(t, "nobody", New(), n, member, true, record(genRec(n, 1, member)))
			wantJoin(t, "nobody", New(), n, member, false, without(api.OK))
			s := holding(genRec(n, 4, member))
			wantJoin(t, "itself", s, n, member, true, without(api.OK))
			wantJoin(t, "itself", s, n, member, false, record(genRec(n, 5)))
			wantJoin(t, "another group", s, (n+1)%api.MaxTxs, member, true, record(genRec((n+1)%api.MaxTxs, 1, member)))
		}
	}
	s := holding(genRec(2, 6, 3, 5, 9))
	for member, want := range map[int][]int{0: {0, 3, 5, 9}, 4: {3, 4, 5, 9}, 8: {3, 5, 8, 9}, 10: {3, 5, 9, 10}} {
		wantJoin(t, "in", s, 2, member, true, record(genRec(2, 7, want...)))
		wantJoin(t, "not in", s, 2, member, false, without(api.OK))
	}
	for member, want := range map[int][]int{3: {5, 9}, 5: {3, 9}, 9: {3, 5}} {
		wantJoin(t, "out", s, 2, member, false, record(genRec(2, 7, want...)))
		wantJoin(t, "in already", s, 2, member, true, without(api.OK))
	}
	s.Apply(plain(genRec(2, 7)))
	wantJoin(t, "all have gone", s, 2, 3, true, record(genRec(2, 8, 3)))
}

func TestJoinOfTheNinth(t *testing.T) {
	s := holding(genRec(1, 3, eight()[:7]...))
	wantJoin(t, "the eighth", s, 1, 14, true, record(genRec(1, 4, eight()...)))
	s.Apply(plain(genRec(1, 4, eight()...)))
	for _, member := range []int{1, 13, 15, math.MaxInt} {
		wantJoin(t, "the ninth", s, 1, member, true, without(api.ErrFull))
		wantJoin(t, "not in", s, 1, member, false, without(api.OK))
	}
	for i, member := range eight() {
		wantJoin(t, "in already", s, 1, member, true, without(api.OK))
		wantJoin(t, "out", s, 1, member, false, record(genRec(1, 5, slices.Delete(eight(), i, i+1)...)))
	}
}

// What waits doesn't hold yet.
func TestJoinWhileOneWaits(t *testing.T) {
	s := holding(genRec(1, 3, 4))
	s.Apply(inTxn(5, genRec(1, 4, 4, 6)))
	wantJoin(t, "it waits", s, 1, 6, true, record(genRec(1, 4, 4, 6)))
	wantJoin(t, "it waits", s, 1, 6, false, without(api.OK))
	wantCommit(t, "it waits", s, 1, 4, 3, 1, 2, record(offRec(1, 1, 2)))
	wantCommit(t, "it waits", s, 1, 6, 4, 1, 2, without(api.ErrGen))
}

func TestJoinGoesRound(t *testing.T) {
	s := holding(genRec(1, math.MaxInt, 4))
	wantJoin(t, "the last generation", s, 1, 5, true, record(genRec(1, math.MinInt, 4, 5)))
}

func TestOwner(t *testing.T) {
	for _, part := range []int{-1, 0, 1, 5, math.MinInt, math.MaxInt} {
		for _, list := range [][]int{nil, {}} {
			if got := Owner(list, part); got != -1 {
				t.Errorf("Owner(%d, %d) = %d, want -1", list, part, got)
			}
		}
	}
	for count := 1; count <= 10; count++ {
		// Any list is gone round, whether it rises or not.
		list := make([]int, count, count+3)
		for i := range list {
			list[i] = 10 * (count - i)
		}
		for _, part := range below() {
			if got := Owner(list, part); got != -1 {
				t.Errorf("Owner(%d, %d) = %d, want -1", list, part, got)
			}
		}
		for part := range 30 {
			if got := Owner(list, part); got != list[part%count] {
				t.Errorf("Owner(%d, %d) = %d, want %d", list, part, got, list[part%count])
			}
		}
		if got := Owner(list, math.MaxInt); got != list[math.MaxInt%count] {
			t.Errorf("Owner(%d, 2^63 - 1) = %d", list, got)
		}
	}
}

func TestCommitOfNoRecord(t *testing.T) {
	for what, s := range map[string]*State{"new": New(), "a team": holding(genRec(0, 3, 2))} {
		for _, gen := range []int{0, 3, 4, -1} {
			for _, member := range []int{0, 2, -1} {
				for _, n := range outside(api.MaxTxs) {
					wantCommit(t, what, s, n, member, gen, 0, 5, without(api.ErrArg))
				}
				for _, part := range outside(api.MaxParts) {
					wantCommit(t, what, s, 0, member, gen, part, 5, without(api.ErrArg))
				}
				for _, offset := range below() {
					wantCommit(t, what, s, 0, member, gen, 0, offset, without(api.ErrArg))
				}
			}
		}
		for _, low := range below() {
			wantCommit(t, what, s, 0, low, 0, 0, 5, without(api.ErrArg))
			wantCommit(t, what, s, 0, low, 3, 0, 5, without(api.ErrArg))
			wantCommit(t, what, s, 0, 2, low, 0, 5, without(api.ErrArg))
		}
	}
}

func TestCommit(t *testing.T) {
	for n := range api.MaxTxs {
		for _, list := range [][]int{{0}, {5}, {1, 2}, {0, 3, 7}, {0, 1, 2, 3}, eight()} {
			s := holding(genRec(n, 3, list...), offRec(n, 0, 100))
			for part := range api.MaxParts {
				owner := list[part%len(list)]
				for member := range 17 {
					what := fmt.Sprintf("of %d", list)
					want := without(api.ErrGen)
					if member == owner {
						want = record(offRec(n, part, 5))
					}
					wantCommit(t, what, s, n, member, 3, part, 5, want)
					for _, gen := range []int{0, 2, 4, math.MaxInt} {
						wantCommit(t, what, s, n, member, gen, part, 5, without(api.ErrGen))
					}
				}
				// Whether it is above isn't asked here.
				for _, offset := range []int{0, 99, 100, math.MaxInt} {
					wantCommit(t, "any offset", s, n, owner, 3, part, offset, record(offRec(n, part, offset)))
				}
			}
		}
	}
}

// To nobody nothing falls, of whatever generation.
func TestCommitWithoutMembers(t *testing.T) {
	for gen, s := range map[int]*State{0: New(), 4: holding(genRec(0, 4))} {
		for part := range api.MaxParts {
			for _, member := range []int{0, 1, math.MaxInt} {
				wantCommit(t, "nobody", s, 0, member, gen, part, 5, without(api.ErrGen))
			}
			wantCommit(t, "nobody", s, 0, -1, gen, part, 5, without(api.ErrArg))
		}
	}
}
