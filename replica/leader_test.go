package replica

import (
	"fmt"
	"math"
	"testing"

	"penstock/api"
	"penstock/disk"
)

// P14.3.

func TestProduceIsRefused(t *testing.T) {
	wantProduce(t, "opened", fresh(t, 0), plain("a"), 0, api.ErrLeader)
	wantProduce(t, "follows", follower(t, 1), plain("a"), 0, api.ErrLeader)
	wantProduce(t, "follows, and no batch", follower(t, 1), api.Batch{}, 0, api.ErrLeader)

	r := leader(t, 1, 0)
	laid(t, r, within(1, 5, 0, "a"))
	long := plain(string(make([]byte, api.MaxValue+1)))
	control := marker(2, 0, true)
	control.Seq = 1
	many := plain(make([]string, api.MaxValues+1)...)
	for _, c := range []struct {
		what string
		b    api.Batch
		want api.Errno
	}{
		{"no values", api.Batch{}, api.ErrForm},
		{"a marker with a Seq", control, api.ErrForm},
		{"a long value", long, api.ErrLong},
		{"many values", many, api.ErrLong},
		{"a producer that there isn't", sent(api.MaxPid+1, 0, 0, "x"), api.ErrArg},
		{"an older epoch", sent(1, 4, 0, "x"), api.ErrFenced},
		{"a marker of an older epoch", marker(1, 4, true), api.ErrFenced},
		{"not the next one", sent(1, 5, 2, "x"), api.ErrSeq},
		{"another one than the first", sent(2, 0, 1, "x"), api.ErrSeq},
	} {
		wantKept(t, c.what, r, func() { wantProduce(t, c.what, r, c.b, 0, c.want) })
	}
}

// TestProduceSetsBaseAndEpoch: those of the batch don't count, even if they may not be.
func TestProduceSetsBaseAndEpoch(t *testing.T) {
	r := leader(t, 6, 0)
	for i, number := range []int{0, 5, -1, math.MinInt, math.MaxInt} {
		wantProduce(t, "plain", r, at(number, number, plain("a", "b")), 2*i, api.OK)
	}
	for i, b := range r.Log() {
		same(t, "laid", b, at(2*i, 6, plain("a", "b")))
	}
}

func TestProduceAgain(t *testing.T) {
	r := leader(t, 1, 0, 1)
	first := laid(t, r, plain("ahead", "ahead"), sent(1, 0, 0, "a", "b"))
	same(t, "the first one", first, 2)
	same(t, "the second one", laid(t, r, sent(1, 0, 2, "c")), 4)
	wantKept(t, "again", r, func() {
		wantProduce(t, "again", r, sent(1, 0, 0, "a", "b"), 2, api.OK)
		wantProduce(t, "again", r, at(77, -7, sent(1, 0, 2, "c")), 4, api.OK)
	})
	wantProduce(t, "another number of values", r, sent(1, 0, 0, "a"), 0, api.ErrSeq)
	// Six batches of one value more: the first ones are forgotten.
	for i := range 6 {
		laid(t, r, sent(1, 0, 3+i, "d"))
	}
	wantProduce(t, "one that is forgotten", r, sent(1, 0, 0, "a", "b"), 0, api.ErrSeq)
	wantProduce(t, "the last but four", r, sent(1, 0, 4, "d"), 6, api.OK)
}

func TestMarkers(t *testing.T) {
	r := leader(t, 1, 0)
	wantProduce(t, "of one that isn't known", r, marker(1, 0, true), 0, api.OK)
	wantProduce(t, "known now, without a transaction", r, marker(1, 0, true), 0, api.OK)
	wantProduce(t, "of another kind", r, marker(1, 0, false), 0, api.OK)
	wantMarks(t, "one stands there", r, 0, 1, 1, 1)
	laid(t, r, plain("a", "b"))
	wantProduce(t, "behind others", r, marker(1, 0, false), 2, api.OK)
	laid(t, r, within(1, 0, 0, "c"))
	wantProduce(t, "that ends one", r, marker(1, 0, false), 4, api.OK)
	wantProduce(t, "again", r, marker(1, 0, false), 4, api.OK)
	laid(t, r, within(1, 0, 1, "d"))
	wantProduce(t, "of a greater epoch, that ends one", r, marker(1, 1, true), 6, api.OK)
	wantProduce(t, "of a greater epoch, that ends none", r, marker(1, 2, true), 7, api.OK)
	wantProduce(t, "of that epoch again", r, marker(1, 2, true), 7, api.OK)
	wantProduce(t, "of an older epoch", r, marker(1, 1, true), 0, api.ErrFenced)
	laid(t, r, sent(2, 0, 0, "e"))
	wantProduce(t, "of one without transactions", r, marker(2, 0, true), 8, api.OK)
	wantMarks(t, "at last", r, 0, 9, 9, 9)
}

// TestProduceOnABrokenDisk: nothing has changed, wherever it broke, and behind a Crash nothing is lost.
func TestProduceOnABrokenDisk(t *testing.T) {
	ok := 0
	for n := range longest {
		for _, keep := range []int{0, 3, -1} {
			d := disk.New()
			r := leads(t, openOn(t, d, 0, 0), 1, 0)
			laid(t, r, sent(1, 0, 0, "a"))
			d.Arm(n)
			if _, e := r.Produce(sent(1, 0, 1, "b")); e == api.OK {
				ok++
				continue
			}
			what := fmt.Sprintf("broken behind %d bytes", n)
			wantKept(t, what, r, func() { wantProduce(t, what, r, sent(1, 0, 1, "b"), 0, api.ErrDead) })
			wantProduce(t, what, r, sent(1, 0, 0, "a"), 0, api.OK)
			wantMarks(t, what, r, 0, 1, 1, 1)
			d.Crash(keep)
			again := leads(t, openOn(t, d, 0, 0), 2, 0)
			wantMarks(t, what, again, 0, 1, 1, 1)
			wantProduce(t, what, again, sent(1, 0, 1, "b"), 1, api.OK)
		}
	}
	if ok == 0 {
		t.Error("it has always broken")
	}
}

func TestProduceOnAFullDisk(t *testing.T) {
	d := disk.New()
	r := leads(t, openOn(t, d, 0, 0), 1, 0)
	laid(t, r, sent(1, 0, 0, "a"))
	used, _, _ := d.Size("p0.00000000")
	wantErrno(t, "Append", d.Append("full", make([]byte, api.MaxDisk-used)), api.OK)
	wantKept(t, "full", r, func() { wantProduce(t, "full", r, sent(1, 0, 1, "b"), 0, api.ErrFull) })
	wantErrno(t, "Remove", d.Remove("full"), api.OK)
	wantProduce(t, "room again", r, sent(1, 0, 1, "b"), 1, api.OK)
}

// TestWhatIsLaidLasts: ahead of the answer.
func TestWhatIsLaidLasts(t *testing.T) {
	d := disk.New()
	r := leads(t, openOn(t, d, 0, 0), 1, 0)
	var want []api.Batch
	for i := range 40 {
		laid(t, r, plain("some value"))
		want = append(want, at(i, 1, plain("some value")))
		d.Crash(0)
		same(t, "Log", openOn(t, d, 0, 0).Log(), want)
	}
}

// The high watermark, of a leader.

func TestRises(t *testing.T) {
	r := leader(t, 1, 0, 1, 2)
	laid(t, r, plain("a"), plain("b"), plain("c", "d"))
	wantHigh(t, "nobody has asked", r, 0)
	asks(t, r, 1, 4)
	wantHigh(t, "one has asked", r, 0)
	asks(t, r, 3, 4)
	wantHigh(t, "one that isn't in sync has asked", r, 0)
	asks(t, r, 2, 1)
	wantHigh(t, "both have asked", r, 1)
	asks(t, r, 2, 2)
	wantHigh(t, "the other one goes on", r, 2)
	asks(t, r, 1, 0)
	asks(t, r, 2, 4)
	wantHigh(t, "the last offset counts, and not the greatest", r, 2)
	asks(t, r, 1, 3)
	wantHigh(t, "within a batch", r, 3)
	asks(t, r, 1, 4)
	wantHigh(t, "all", r, 4)
	asks(t, r, 1, 0)
	asks(t, r, 2, 0)
	wantHigh(t, "never falls", r, 4)
}

// TestRisesBesideItself: an Isr without the leader, an empty one, one with numbers that are no node's.
func TestRisesBesideItself(t *testing.T) {
	r := leader(t, 1)
	laid(t, r, plain("a"))
	wantHigh(t, "nobody", r, 1)
	wantErrno(t, "Sync", r.Sync(1, []int{1}), api.OK)
	laid(t, r, plain("b"))
	wantHigh(t, "another one alone", r, 1)
	asks(t, r, 1, 2)
	wantHigh(t, "it has asked", r, 2)
	for _, n := range outside(5) {
		wantErrno(t, "Sync", r.Sync(1, []int{0, n, 0}), api.OK)
		before := laid(t, r, plain("c"))
		wantHigh(t, fmt.Sprintf("with %d", n), r, before)
		wantErrno(t, "Sync", r.Sync(1, []int{0, 0}), api.OK)
		wantHigh(t, "without it", r, before+1)
		r.Asked([]int{n})
		laid(t, r, plain("d"))
		wantHigh(t, fmt.Sprintf("%d is asked for", n), r, before+1)
		wantErrno(t, "Sync", r.Sync(1, []int{0}), api.OK)
		wantHigh(t, "it isn't, any more", r, before+2)
	}
}

func TestAskedFor(t *testing.T) {
	r := leader(t, 1, 0)
	laid(t, r, plain("a"))
	r.Asked([]int{0, 1})
	wantHigh(t, "it doesn't fall", r, 1)
	laid(t, r, plain("b"))
	wantHigh(t, "1 is asked for", r, 1)
	r.Asked([]int{0, 2})
	asks(t, r, 1, 2)
	wantHigh(t, "2 is, too", r, 1)
	asks(t, r, 2, 2)
	wantHigh(t, "both have asked", r, 2)
	laid(t, r, plain("c"))
	asks(t, r, 2, 3)
	wantHigh(t, "1 still is", r, 2)
	r.Asked(nil)
	asks(t, r, 2, 3)
	wantHigh(t, "nobody more", r, 2)
	wantErrno(t, "Sync", r.Sync(1, []int{0, 2}), api.OK)
	wantHigh(t, "nobody is any more", r, 3)
}

// P14.4, of a leader.

func TestFetchIsRefused(t *testing.T) {
	r := leads(t, openOn(t, disk.New(), 3, 2), 4, 2, 1)
	laid(t, r, plain("a"))
	good := api.FetchReq{Part: 3, Epoch: 4, Node: 1, LastEpoch: -1}
	change := func(f func(q *api.FetchReq)) api.FetchReq {
		q := good
		f(&q)
		return q
	}
	type call struct {
		what string
		q    api.FetchReq
		want api.Errno
	}
	list := []call{
		{"another partition", change(func(q *api.FetchReq) { q.Part = 2 }), api.ErrLeader},
		{"an older epoch", change(func(q *api.FetchReq) { q.Epoch = 3 }), api.ErrLeader},
		{"a later epoch", change(func(q *api.FetchReq) { q.Epoch = 5 }), api.ErrLeader},
		{"itself", change(func(q *api.FetchReq) { q.Node = 2 }), api.ErrLeader},
		{"itself, and no offset", change(func(q *api.FetchReq) { q.Node, q.Offset = 2, -1 }), api.ErrLeader},
		{"no offset", change(func(q *api.FetchReq) { q.Offset = -1 }), api.ErrOffset},
		{"no offset at all", change(func(q *api.FetchReq) { q.Offset = math.MinInt }), api.ErrOffset},
		{"no epoch", change(func(q *api.FetchReq) { q.LastEpoch = -2 }), api.ErrOffset},
		{"no epoch, from 1", change(func(q *api.FetchReq) { q.Offset, q.LastEpoch = 1, math.MinInt }), api.ErrOffset},
	}
	for _, n := range outside(5) {
		list = append(list, call{"no node", change(func(q *api.FetchReq) { q.Node = n }), api.ErrLeader})
	}
	for _, c := range list {
		wantKept(t, c.what, r, func() {
			same(t, c.what, r.Fetch(c.q), api.FetchReply{Part: 3, Epoch: 4, E: c.want})
		})
	}
	same(t, "the good one", r.Fetch(good), api.FetchReply{Part: 3, Epoch: 4, Batches: r.Log()})
}

// TestFetchOfOneThatDoesNotLead: its own epoch is told, -1 too.
func TestFetchOfOneThatDoesNotLead(t *testing.T) {
	same(t, "opened", fresh(t, 0).Fetch(asking(-1, 1, 0, -1)), api.FetchReply{Epoch: -1, E: api.ErrLeader})
	same(t, "follows", follower(t, 5).Fetch(asking(5, 0, 0, -1)), api.FetchReply{Epoch: 5, E: api.ErrLeader})
}

// ofEpochs leads in an epoch, with a log of these epochs.
func ofEpochs(t *testing.T, epoch int, list ...int) *Replica {
	t.Helper()
	d := disk.New()
	logOf(t, d, row(list...)...)
	return leads(t, openOn(t, d, 0, 0), epoch, 0, 1)
}

func TestDiverges(t *testing.T) {
	r := ofEpochs(t, 9, 2, 2, 4, 4, 4, 7)
	for _, c := range []struct{ offset, last, epoch, end int }{
		{1, -1, -1, 0}, {1, 0, -1, 0}, {6, 1, -1, 0}, {math.MaxInt, 1, -1, 0},
		{3, 2, 2, 2}, {7, 2, 2, 2},
		{1, 3, 2, 2}, {2, 3, 2, 2}, {3, 3, 2, 2},
		{6, 4, 4, 5}, {9, 4, 4, 5},
		{5, 5, 4, 5}, {1, 6, 4, 5},
		{7, 7, 7, 6}, {math.MaxInt, 7, 7, 6},
		{6, 8, 7, 6}, {1, 8, 7, 6}, {6, 9, 7, 6}, {6, math.MaxInt, 7, 6},
	} {
		want := diverging(9, c.epoch, c.end, c.offset, c.last)
		wantKept(t, "Fetch", r, func() { same(t, "Fetch", r.Fetch(asking(9, 1, c.offset, c.last)), want) })
	}
	for _, c := range []struct{ offset, last int }{
		{1, 2}, {2, 2}, {1, 4}, {3, 4}, {5, 4}, {6, 7}, {1, 7},
		{0, -1}, {0, 0}, {0, 2}, {0, 3}, {0, 9}, {0, math.MaxInt},
	} {
		a := r.Fetch(asking(9, 1, c.offset, c.last))
		same(t, fmt.Sprintf("Fetch from %d, of %d", c.offset, c.last), a, api.FetchReply{Epoch: 9, High: a.High, Batches: r.Log()[c.offset:]})
	}
}

// TestDivergesFromAnEmptyLog: whoever has something.
func TestDivergesFromAnEmptyLog(t *testing.T) {
	r := leader(t, 3, 0, 1)
	same(t, "with a log", r.Fetch(asking(3, 1, 2, 1)), diverging(3, -1, 0, 2, 1))
	same(t, "without one", r.Fetch(asking(3, 1, 0, -1)), api.FetchReply{Epoch: 3})
}

// TestDivergingIsNoAsking: it counts neither for the high watermark nor for being in sync.
func TestDivergingIsNoAsking(t *testing.T) {
	r := ofEpochs(t, 9, 2, 2)
	r.Fetch(asking(9, 1, 2, 3))
	wantHigh(t, "diverged", r, 0)
	r.Fetch(asking(9, 1, 2, 2))
	wantHigh(t, "asked", r, 2)
	r.Fetch(asking(9, 2, 3, 2))
	wantWant(t, "2 has diverged", r, everybody(), []int{0, 1}, false)
	r.Fetch(asking(9, 2, 2, 2))
	wantWant(t, "2 has asked", r, everybody(), []int{0, 1, 2}, true)
}

func TestFetchTellsEight(t *testing.T) {
	r := leader(t, 1, 0, 1)
	for range 20 {
		laid(t, r, plain("a", "b"))
	}
	log := r.Log()
	for _, c := range []struct{ offset, first, behind int }{
		{0, 0, 8}, {1, 0, 8}, {2, 1, 9}, {3, 1, 9}, {23, 11, 19}, {24, 12, 20}, {25, 12, 20}, {26, 13, 20}, {39, 19, 20}, {40, 20, 20},
	} {
		a := r.Fetch(asking(1, 1, c.offset, 1))
		same(t, fmt.Sprintf("Fetch from %d", c.offset), a, api.FetchReply{Epoch: 1, High: c.offset, Batches: log[c.first:c.behind]})
	}
}

// TestFetchTellsHighBehindItsRise: by what has just been asked.
func TestFetchTellsHighBehindItsRise(t *testing.T) {
	r := leader(t, 1, 0, 1)
	laid(t, r, plain("a"))
	same(t, "High", r.Fetch(asking(1, 1, 1, 1)).High, 1)
	same(t, "High to one that isn't in sync", r.Fetch(asking(1, 2, 0, -1)).High, 1)
}

// P14.7: Ready.

func TestReady(t *testing.T) {
	r := ofEpochs(t, 9, 1, 1)
	same(t, "at first", r.Ready(), false)
	laid(t, r, plain("new"))
	r.Fetch(asking(9, 1, 1, 1))
	same(t, "below its beginning", r.Ready(), false)
	r.Fetch(asking(9, 1, 2, 1))
	same(t, "at its beginning", r.Ready(), true)
	r.Fetch(asking(9, 1, 3, 9))
	same(t, "above it", r.Ready(), true)
	same(t, "with an empty log", leader(t, 1, 0, 1).Ready(), true)
	wantErrno(t, "Follow", r.Follow(10), api.OK)
	same(t, "follows", r.Ready(), false)
}

// Nothing is shared.

func TestNoMemoryIsShared(t *testing.T) {
	r := leader(t, 1, 0)
	b := within(1, 0, 0, "abc")
	laid(t, r, b, marker(1, 0, false), plain("x"))
	b.Values[0][0] = '!'
	want := fmt.Sprint(r.Log())
	spoil := func(list []api.Batch) {
		for i := range list {
			for _, v := range list[i].Values {
				clear(v)
			}
			list[i].Values = nil
		}
	}
	spoil(r.Log())
	a := r.Fetch(asking(1, 1, 0, -1))
	spoil(a.Batches)
	list, aborts, _ := r.Committed(0, 9)
	spoil(list)
	clear(aborts)
	same(t, "Log", fmt.Sprint(r.Log()), want)
	same(t, "the first value", string(r.Log()[0].Values[0]), "abc")
	_, aborts, _ = r.Committed(0, 9)
	same(t, "aborted", aborts, []api.Abort{{Pid: 1, First: 0, Last: 1}})

	f := follower(t, 1)
	a = r.Fetch(asking(1, 1, 0, -1))
	wantErrno(t, "Accept", f.Accept(a), api.OK)
	spoil(a.Batches)
	same(t, "the follower's log", f.Log(), r.Log())

	asks(t, r, 1, 3)
	whom, _ := r.Want(everybody())
	clear(whom)
	wantWant(t, "again", r, everybody(), []int{0, 1}, true)
}
