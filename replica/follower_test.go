package replica

import (
	"fmt"
	"math"
	"testing"

	"penstock/api"
	"penstock/disk"
)

// P14.4, of a follower.

func TestNeed(t *testing.T) {
	r := openOn(t, disk.New(), 5, 4)
	wantNeed := func(what string, want api.FetchReq, wantOK bool) {
		t.Helper()
		q, ok := r.Need()
		same(t, what, fmt.Sprintf("%+v %v", q, ok), fmt.Sprintf("%+v %v", want, wantOK))
	}
	wantNeed("opened", api.FetchReq{}, false)
	leads(t, r, 3, 4)
	wantNeed("leads", api.FetchReq{}, false)
	wantErrno(t, "Follow", r.Follow(4), api.OK)
	wantNeed("without a log", api.FetchReq{Part: 5, Epoch: 4, Node: 4, LastEpoch: -1}, true)
	leads(t, r, 6, 4)
	laid(t, r, plain("a", "b"))
	wantNeed("leads again", api.FetchReq{}, false)
	wantErrno(t, "Follow", r.Follow(9), api.OK)
	wantNeed("with a log", api.FetchReq{Part: 5, Epoch: 9, Node: 4, Offset: 2, LastEpoch: 6}, true)
}

// TestNeedTellsTheLastBatch: its epoch, even if one ahead of it is above that.
func TestNeedTellsTheLastBatch(t *testing.T) {
	f := follower(t, 8, row(1, 5, 3)...)
	q, _ := f.Need()
	same(t, "Need", q, asking(8, 1, 3, 3))
}

// P14.5.

func TestAcceptIsRefused(t *testing.T) {
	more := at(2, 4, plain("more"))
	for _, f := range []*Replica{follower(t, 4, row(2, 4)...), leads(t, follower(t, 3, row(2, 4)...), 4, 1)} {
		_, leads := f.Role()
		for _, c := range []struct {
			what string
			a    api.FetchReply
			want api.Errno
		}{
			{"an older epoch", answer(3, 9, more), api.ErrLeader},
			{"a later epoch", answer(5, 9, more), api.ErrLeader},
			{"another partition", api.FetchReply{Part: 1, Epoch: 4, Batches: []api.Batch{more}}, api.ErrLeader},
			{"another partition, and an error", api.FetchReply{Part: 1, Epoch: 4, E: api.ErrOffset}, api.ErrLeader},
			{"its error", api.FetchReply{Epoch: 4, E: api.ErrSpent, High: 9, Batches: []api.Batch{more}}, api.ErrSpent},
			{"its error, ahead of diverging", api.FetchReply{Epoch: 4, E: api.ErrBusy, Diverges: true}, api.ErrBusy},
			{"any error", api.FetchReply{Epoch: 4, E: -7}, -7},
			{"behind the log's end", answer(4, 9, at(3, 4, plain("x"))), api.ErrOffset},
			{"no batch", answer(4, 9, at(2, 4, plain())), api.ErrForm},
			{"no epoch", answer(4, 9, at(2, -1, plain("x"))), api.ErrArg},
			{"no batch, behind the log's end", answer(4, 9, at(3, 4, plain())), api.ErrForm},
			{"a long value", answer(4, 9, at(2, 4, plain(string(make([]byte, 65))))), api.ErrLong},
		} {
			want := c.want
			if leads {
				want = api.ErrLeader
			}
			wantKept(t, c.what, f, func() { wantErrno(t, c.what, f.Accept(c.a), want) })
		}
	}
}

// TestAcceptOfOneThatFollowsNobody: only an answer of its epoch, -1, isn't of another one.
func TestAcceptOfOneThatFollowsNobody(t *testing.T) {
	r := fresh(t, 0)
	for _, epoch := range []int{0, 1, -2} {
		wantErrno(t, "Accept", r.Accept(answer(epoch, 0, row(0)...)), api.ErrLeader)
	}
	wantErrno(t, "what one like it answers", r.Accept(fresh(t, 1).Fetch(asking(-1, 0, 0, -1))), api.ErrLeader)
	wantMarks(t, "nothing is laid", r, 0, 0, 0, 0)
}

func TestAcceptLays(t *testing.T) {
	list := []api.Batch{
		at(0, 1, sent(1, 0, 0, "a", "b")),
		at(2, 1, within(2, 0, 0, "c")),
		at(3, 5, marker(2, 0, false)),
		// What the leader's log has isn't checked by layer 9.
		at(4, 5, sent(1, 0, 9, "d")),
	}
	f := follower(t, 5, list[:2]...)
	same(t, "the first ones", f.Log(), list[:2])
	wantErrno(t, "again, and others", f.Accept(answer(5, 0, list...)), api.OK)
	same(t, "all", f.Log(), list)
	wantKept(t, "all again", f, func() { wantErrno(t, "Accept", f.Accept(answer(5, 0, list...)), api.OK) })
	wantErrno(t, "none", f.Accept(answer(5, 0)), api.OK)
	leads(t, f, 6, 1)
	wantProduce(t, "again", f, sent(1, 0, 9, "x"), 4, api.OK)
	_, aborts, _ := f.Committed(0, 9)
	same(t, "aborted", aborts, []api.Abort{{Pid: 2, First: 2, Last: 3}})
}

// TestAcceptPassesOver: what begins ahead of the log's end, whatever it is, and even if it ends behind it.
func TestAcceptPassesOver(t *testing.T) {
	f := follower(t, 1, row(1, 1)...)
	wantKept(t, "Accept", f, func() {
		wantErrno(t, "Accept", f.Accept(answer(1, 0,
			at(1, 1, plain("x", "y", "z")), at(-1, 1, plain("x")), at(0, -1, plain()), at(math.MinInt, 1, plain("x")))), api.OK)
	})
	wantErrno(t, "one behind these", f.Accept(answer(1, 0, at(1, 1, plain("x", "y")), at(3, 1, plain("z")))), api.ErrOffset)
	wantErrno(t, "the next one behind these", f.Accept(answer(1, 0, at(1, 1, plain("x", "y")), at(2, 1, plain("z")))), api.OK)
	wantMarks(t, "one more", f, 0, 3, 0, 0)
}

// TestAcceptLaysUpToAnError: and the high watermark stays.
func TestAcceptLaysUpToAnError(t *testing.T) {
	f := follower(t, 1, row(1)...)
	wantErrno(t, "Accept", f.Accept(answer(1, 9, at(1, 1, plain("a")), at(2, 1, plain("b")), at(4, 1, plain("x")), at(3, 1, plain("y")))), api.ErrOffset)
	wantMarks(t, "two more", f, 0, 3, 0, 0)
}

func TestAcceptRaises(t *testing.T) {
	f := follower(t, 1, at(0, 1, plain("a", "b")), at(2, 1, plain("c")))
	for _, c := range []struct{ told, want int }{
		{-5, 0}, {0, 0}, {2, 2}, {1, 2}, {-1, 2}, {math.MinInt, 2}, {3, 3}, {0, 3}, {7, 3}, {math.MaxInt, 3},
	} {
		wantErrno(t, "Accept", f.Accept(answer(1, c.told)), api.OK)
		wantHigh(t, fmt.Sprintf("High %d", c.told), f, c.want)
	}
	wantErrno(t, "Accept", f.Accept(answer(1, 4, at(3, 1, plain("d", "e")))), api.OK)
	wantMarks(t, "by the log's end as it is then, within a batch", f, 0, 5, 4, 4)
}

func TestAcceptCuts(t *testing.T) {
	for _, c := range []struct {
		what     string
		endEpoch int
		end      int
		left     int
	}{
		{"the leader's end is lesser", 4, 3, 3},
		{"its own end is lesser", 4, 9, 5},
		{"both are one", 4, 5, 5},
		{"an epoch that it hasn't", 3, 9, 2},
		{"an epoch that it hasn't, and a lesser end", 3, 1, 1},
		{"no epoch up to it", 1, 9, 0},
		{"the leader has none", -1, 0, 0},
		{"no epoch at all", math.MinInt, 9, 0},
		{"an end below 0", 4, -1, 0},
		{"an end far below 0", 4, math.MinInt, 0},
		{"the last epoch", 7, 5, 5},
		{"the last epoch, nothing to cut", 7, 6, 6},
		{"an epoch above all", math.MaxInt, math.MaxInt, 6},
	} {
		list := row(2, 2, 4, 4, 4, 7)
		f := follower(t, 9, list...)
		a := diverging(9, c.endEpoch, c.end, 6, 7)
		a.High, a.Batches = 6, []api.Batch{at(c.left, 9, plain("x"))}
		wantErrno(t, c.what, f.Accept(a), api.OK)
		same(t, c.what+": Log", f.Log(), list[:c.left])
		wantHigh(t, c.what, f, 0)
	}
}

// TestAcceptCutsWholeBatches: what ends behind the offset goes.
func TestAcceptCutsWholeBatches(t *testing.T) {
	f := follower(t, 3, at(0, 1, plain("a")), at(1, 1, plain("b", "c")), at(3, 2, plain("d")))
	wantErrno(t, "Accept", f.Accept(diverging(3, 1, 2, 4, 2)), api.OK)
	wantMarks(t, "cut within a batch", f, 0, 1, 0, 0)
	q, _ := f.Need()
	same(t, "Need", q, asking(3, 1, 1, 1))
}

func TestAcceptComesLate(t *testing.T) {
	f := follower(t, 9, row(2, 2, 4)...)
	for _, c := range []struct{ offset, last int }{{2, 4}, {4, 4}, {3, 2}, {3, 5}, {3, -1}, {0, -1}, {2, 2}} {
		wantKept(t, "Accept", f, func() {
			wantErrno(t, fmt.Sprintf("asked from %d, of %d", c.offset, c.last), f.Accept(diverging(9, 2, 2, c.offset, c.last)), api.ErrOffset)
		})
	}
	wantErrno(t, "in time", f.Accept(diverging(9, 2, 2, 3, 4)), api.OK)
	wantKept(t, "doubled", f, func() { wantErrno(t, "doubled", f.Accept(diverging(9, 2, 2, 3, 4)), api.ErrOffset) })
}

// TestAcceptNeverCutsBelowTheHighWatermark: at it, it may.
func TestAcceptNeverCutsBelowTheHighWatermark(t *testing.T) {
	f := follower(t, 9, row(2, 2, 4, 4)...)
	wantErrno(t, "Accept", f.Accept(answer(9, 3)), api.OK)
	for _, a := range []api.FetchReply{diverging(9, 2, 2, 4, 4), diverging(9, 4, 2, 4, 4), diverging(9, -1, 0, 4, 4), diverging(9, 4, -1, 4, 4)} {
		wantKept(t, "Accept", f, func() { wantErrno(t, fmt.Sprintf("%+v", a), f.Accept(a), api.ErrOffset) })
	}
	wantErrno(t, "at it", f.Accept(diverging(9, 4, 3, 4, 4)), api.OK)
	wantMarks(t, "at it", f, 0, 3, 3, 3)
}

// TestCutIsForgotten: what was cut counts neither for producers nor for transactions nor for epochs.
func TestCutIsForgotten(t *testing.T) {
	f := follower(t, 3,
		at(0, 1, within(1, 0, 0, "a")), at(1, 1, sent(2, 0, 0, "b")),
		at(2, 2, marker(1, 0, false)), at(3, 2, sent(2, 0, 1, "c")), at(4, 2, sent(3, 7, 0, "d")))
	wantErrno(t, "Accept", f.Accept(diverging(3, 1, 2, 5, 2)), api.OK)
	leads(t, f, 4, 1)
	_, aborts, stable := f.Committed(0, 9)
	same(t, "aborted", fmt.Sprint(aborts, stable), "[] 0")
	same(t, "its end by epochs", f.Fetch(asking(4, 0, 5, 2)), diverging(4, 1, 2, 5, 2))
	wantProduce(t, "not the next one", f, sent(2, 0, 2, "x"), 0, api.ErrSeq)
	wantProduce(t, "not again", f, sent(2, 0, 1, "c"), 2, api.OK)
	wantProduce(t, "not fenced", f, sent(3, 0, 0, "x"), 3, api.OK)
	wantProduce(t, "a transaction that is open again", f, marker(1, 0, true), 4, api.OK)
	wantMarks(t, "all of it", f, 0, 5, 5, 5)
}

// TestAcceptOnABrokenDisk: what was laid ahead of the break stays, wherever it was, and behind a Crash nothing of it is lost.
func TestAcceptOnABrokenDisk(t *testing.T) {
	list := row(1, 1, 1, 1)
	ok := 0
	for n := range longest * len(list) {
		for _, keep := range []int{0, 5, -1} {
			d := disk.New()
			f := openOn(t, d, 0, 1)
			wantErrno(t, "Follow", f.Follow(1), api.OK)
			d.Arm(n)
			e := f.Accept(answer(1, 4, list...))
			if e == api.OK {
				wantMarks(t, "not broken", f, 0, 4, 4, 4)
				ok++
				continue
			}
			what := fmt.Sprintf("broken behind %d bytes", n)
			wantErrno(t, what, e, api.ErrDead)
			log := f.Log()
			same(t, what, log, list[:len(log)])
			wantMarks(t, what, f, 0, len(log), 0, 0)
			wantErrno(t, what+": cutting", f.Accept(diverging(1, -1, 0, len(log), f.last)), api.ErrDead)
			d.Crash(keep)
			again := openOn(t, d, 0, 1)
			same(t, what+": opened again", again.Log(), log)
			wantErrno(t, "Follow", again.Follow(1), api.OK)
			wantErrno(t, what+": goes on", again.Accept(answer(1, 4, list...)), api.OK)
			same(t, what+": all", again.Log(), list)
		}
	}
	if ok == 0 {
		t.Error("it has always broken")
	}
}

// TestCutLasts: behind a Crash what was cut doesn't come back.
func TestCutLasts(t *testing.T) {
	d := disk.New()
	f := openOn(t, d, 0, 1)
	wantErrno(t, "Follow", f.Follow(9), api.OK)
	wantErrno(t, "Accept", f.Accept(answer(9, 0, row(1, 1, 3)...)), api.OK)
	wantErrno(t, "Accept", f.Accept(diverging(9, 1, 2, 3, 3)), api.OK)
	d.Crash(-1)
	same(t, "Log", openOn(t, d, 0, 1).Log(), row(1, 1))
}

// TestCatchesUp: a follower comes to the leader's log from any other one, as far as an epoch that both have begins at one offset.
func TestCatchesUp(t *testing.T) {
	for _, its := range [][]int{nil, {1}, {1, 1, 1}, {1, 2}, {1, 1, 3}, {1, 2, 2, 2, 4}, {1, 2, 4, 4}, {0, 0, 0, 0, 0, 0}, {1, 1, 3, 3, 3, 7, 7}, {6}, {6, 6, 6}} {
		for _, leaders := range [][]int{nil, {1}, {1, 1}, {1, 2, 2}, {1, 1, 3, 3, 5}, {6, 6}} {
			r := ofEpochs(t, 9, leaders...)
			laid(t, r, plain("x"), plain("y"))
			f := follower(t, 9, row(its...)...)
			for range 12 {
				pass(t, r, f)
			}
			same(t, fmt.Sprintf("of %d, behind %d", its, leaders), f.Log(), r.Log())
			wantHigh(t, "the follower's", f, len(leaders)+2)
			wantHigh(t, "the leader's", r, len(leaders)+2)
		}
	}
}
