package replica

import (
	"fmt"
	"math"
	"testing"

	"penstock/api"
)

// P14.7.

// TestStable: it is by the batches below the high watermark alone.
func TestStable(t *testing.T) {
	r := leader(t, 1, 0, 1)
	laid(t, r,
		sent(1, 0, 0, "a"),        // 0
		within(2, 0, 0, "b"),      // 1
		within(3, 0, 0, "c"),      // 2
		marker(2, 0, true),        // 3
		within(2, 0, 1, "d"),      // 4
		marker(3, 0, false),       // 5
		plain("e", "f"),           // 6
		marker(2, 0, true),        // 8
		within(4, 0, 0, "g", "h"), // 9
	)
	for high, stable := range []int{0, 1, 1, 1, 2, 2, 4, 4, 4, 9, 10, 9} {
		asks(t, r, 1, high)
		wantMarks(t, fmt.Sprintf("up to %d", high), r, 0, 11, high, stable)
	}
}

// TestStableOfAFollower: its high watermark may lie within a batch, which doesn't count then.
func TestStableOfAFollower(t *testing.T) {
	f := follower(t, 1, at(0, 1, plain("a")), at(1, 1, within(1, 0, 0, "b", "c", "d")), at(4, 1, marker(1, 0, true)))
	for high, stable := range []int{0, 1, 2, 3, 1, 5} {
		wantErrno(t, "Accept", f.Accept(answer(1, high)), api.OK)
		wantMarks(t, fmt.Sprintf("up to %d", high), f, 0, 5, high, stable)
	}
}

// TestStableBehindACutAtTheHighWatermark: within a batch, so that the log ends below it, and what is laid there counts at once.
func TestStableBehindACutAtTheHighWatermark(t *testing.T) {
	f := follower(t, 1, at(0, 1, plain("a", "b", "c")))
	wantErrno(t, "Accept", f.Accept(answer(1, 2)), api.OK)
	wantErrno(t, "Accept", f.Accept(diverging(1, 1, 2, 3, 1)), api.OK)
	wantMarks(t, "cut", f, 0, 0, 2, 2)
	wantErrno(t, "Accept", f.Accept(answer(1, 0, at(0, 1, within(1, 0, 0, "d")), at(1, 1, within(2, 0, 0, "e")))), api.OK)
	wantMarks(t, "laid", f, 0, 2, 2, 0)
	wantErrno(t, "Accept", f.Accept(answer(1, 3, at(2, 1, marker(1, 0, true)))), api.OK)
	wantMarks(t, "ended", f, 0, 3, 3, 1)
}

func TestStableBehindAMarkerOfALaterEpoch(t *testing.T) {
	r := leader(t, 1, 0)
	laid(t, r, within(1, 0, 0, "a"), plain("b"))
	wantMarks(t, "open", r, 0, 2, 2, 0)
	laid(t, r, marker(1, 5, false))
	wantMarks(t, "ended by a later epoch", r, 0, 3, 3, 3)
}

func TestCommitted(t *testing.T) {
	r := leader(t, 1, 0, 1)
	laid(t, r,
		within(1, 0, 0, "a", "b"), // 0
		within(2, 0, 0, "c"),      // 2
		marker(1, 0, false),       // 3
		within(3, 0, 0, "d"),      // 4
		marker(2, 0, false),       // 5
		marker(3, 0, true),        // 6
		plain("e"),                // 7
		within(1, 0, 2, "f"),      // 8
		marker(1, 0, false),       // 9
	)
	log := r.Log()
	first, second, third := api.Abort{Pid: 1, First: 0, Last: 3}, api.Abort{Pid: 2, First: 2, Last: 5}, api.Abort{Pid: 1, First: 8, Last: 9}
	want := func(what string, from, n, begin, end, stable int, aborts ...api.Abort) {
		t.Helper()
		list, got, to := r.Committed(from, n)
		same(t, fmt.Sprintf("%s: Committed(%d, %d)", what, from, n), fmt.Sprint(list, got, to), fmt.Sprint(log[begin:end], aborts, stable))
	}
	want("nothing is committed", 0, 9, 0, 0, 0)
	asks(t, r, 1, 3)
	want("the first one is open", 0, 9, 0, 0, 0)
	asks(t, r, 1, 5)
	want("the second one is open", 0, 9, 0, 1, 2, first)
	asks(t, r, 1, 7)
	want("up to 7", 0, 9, 0, 6, 7, first, second)
	want("from -1 on", -1, 9, 0, 6, 7, first, second)
	want("from the least number on", math.MinInt, math.MaxInt, 0, 6, 7, first, second)
	want("within the first one", 1, 1, 0, 1, 7, first)
	want("the second one", 2, 1, 1, 2, 7, first, second)
	want("the second and the third one", 2, 2, 1, 3, 7, first, second)
	want("the marker of the first one", 3, 1, 2, 3, 7, first, second)
	want("behind it", 4, 9, 3, 6, 7, second)
	want("behind both", 6, 9, 5, 6, 7)
	want("none", 0, 0, 0, 0, 7)
	want("below none", 0, -1, 0, 0, 7)
	want("below none by far", 0, math.MinInt, 0, 0, 7)
	want("behind the stable ones", 7, 9, 0, 0, 7)
	want("behind all", 11, 9, 0, 0, 7)
	want("far behind all", math.MaxInt, math.MaxInt, 0, 0, 7)
	asks(t, r, 1, 9)
	want("one is open again", 0, 99, 0, 7, 8, first, second)
	want("of the first two", 0, 2, 0, 2, 8, first, second)
	asks(t, r, 1, 10)
	want("all", 0, 99, 0, 9, 10, first, second, third)
	want("the last two", 8, 99, 7, 9, 10, third)
	want("those in the middle", 6, 2, 5, 7, 10)
}

// TestCommittedWithinABatch: one that doesn't end up to the stable offset isn't told.
func TestCommittedWithinABatch(t *testing.T) {
	f := follower(t, 1, at(0, 1, plain("a")), at(1, 1, plain("b", "c")))
	wantErrno(t, "Accept", f.Accept(answer(1, 2)), api.OK)
	same(t, "Committed", fmt.Sprint(f.Committed(0, 9)), fmt.Sprint(f.Log()[:1], []api.Abort{}, 2))
}

func TestLogAndRole(t *testing.T) {
	r := leader(t, 3, 0)
	var want []api.Batch
	for i := range 100 {
		laid(t, r, sent(1, 0, i, "a value of some bytes"))
		want = append(want, at(i, 3, sent(1, 0, i, "a value of some bytes")))
	}
	same(t, "Log", r.Log(), want)
	wantRole(t, "leads", r, 3, true)
	wantErrno(t, "Follow", r.Follow(4), api.OK)
	wantRole(t, "follows", r, 4, false)
	same(t, "Log", r.Log(), want)
}
