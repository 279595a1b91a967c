package replica

import (
	"fmt"
	"math"
	"slices"
	"strings"
	"testing"

	"penstock/api"
	"penstock/disk"
	"penstock/seglog"
)

// The chapter's examples.

func TestExampleOfALeader(t *testing.T) {
	alone := leader(t, 1, 0)
	wantProduce(t, "alone", alone, plain("a"), 0, api.OK)
	wantMarks(t, "alone", alone, 0, 1, 1, 1)

	r := leader(t, 1, 0, 1)
	wantProduce(t, "of two", r, plain("a"), 0, api.OK)
	wantMarks(t, "of two", r, 0, 1, 0, 0)
	asks(t, r, 1, 0)
	wantMarks(t, "asked from 0", r, 0, 1, 0, 0)
	asks(t, r, 1, 1)
	wantMarks(t, "asked from 1", r, 0, 1, 1, 1)
}

func TestExampleOfAFollower(t *testing.T) {
	old := row(1, 1, 2, 2)
	f := follower(t, 2, old...)
	r := fresh(t, 0)
	wantErrno(t, "Follow", r.Follow(1), api.OK)
	wantErrno(t, "Accept", r.Accept(answer(1, 0, old[:2]...)), api.OK)
	leads(t, r, 3, 0, 1)
	laid(t, r, plain("new"))

	wantErrno(t, "Follow", f.Follow(3), api.OK)
	a := pass(t, r, f)
	same(t, "the first answer", a, diverging(3, 1, 2, 4, 2))
	wantMarks(t, "behind the cut", f, 0, 2, 0, 0)
	pass(t, r, f)
	same(t, "the follower's log", f.Log(), r.Log())
}

// P14.1.

func TestOpen(t *testing.T) {
	for part := range 6 {
		for me := range 5 {
			r := openOn(t, disk.New(), part, me)
			what := fmt.Sprintf("the partition %d on %d", part, me)
			wantRole(t, what, r, -1, false)
			wantMarks(t, what, r, 0, 0, 0, 0)
			same(t, what+": Ready", r.Ready(), false)
			same(t, what+": Log", r.Log(), []api.Batch{})
			wantErrno(t, what+": Follow", r.Follow(0), api.OK)
			q, _ := r.Need()
			same(t, what+": Need", q, api.FetchReq{Part: part, Node: me, LastEpoch: -1})
		}
	}
}

func TestOpenIsRefused(t *testing.T) {
	dead := disk.New()
	dead.Arm(0)
	dead.Append("a", []byte("a"))
	type call struct {
		what     string
		d        *disk.Disk
		name     string
		part, me int
		want     api.Errno
	}
	list := []call{
		{"no disk", nil, "p0", 0, 0, api.ErrState},
		{"no disk, and nothing else that may be", nil, "", -1, -1, api.ErrState},
		{"a dead disk", dead, "p0", 0, 0, api.ErrDead},
		{"a dead disk, and a wrong partition", dead, "p0", 6, 0, api.ErrArg},
		{"a dead disk, and a wrong node", dead, "p0", 0, 5, api.ErrArg},
		{"a dead disk, and a wrong name", dead, "p.0", 0, 0, api.ErrArg},
		{"no name", disk.New(), "", 0, 0, api.ErrArg},
		{"a dot", disk.New(), "p.", 0, 0, api.ErrArg},
		{"nine bytes", disk.New(), "123456789", 0, 0, api.ErrArg},
	}
	for _, n := range outside(6) {
		list = append(list, call{"a partition that there isn't", disk.New(), "p0", n, 0, api.ErrArg})
	}
	for _, n := range outside(5) {
		list = append(list, call{"a node that there isn't", disk.New(), "p0", 0, n, api.ErrArg})
	}
	for _, c := range list {
		if r, e := Open(c.d, c.name, c.part, c.me); r != nil || e != c.want {
			t.Errorf("%s: Open(%q, %d, %d) = %v, %d, want %d", c.what, c.name, c.part, c.me, r, e, c.want)
		}
	}
}

// logOf is a log on a disk, whose batches stand there, and don't last.
func logOf(t *testing.T, d *disk.Disk, list ...api.Batch) *seglog.Log {
	t.Helper()
	l, e := seglog.Open(d, "p0")
	wantErrno(t, "seglog.Open", e, api.OK)
	for _, b := range list {
		wantErrno(t, "Put", l.Put(b), api.OK)
	}
	return l
}

// TestOpenKnowsTheLog: its producers, its transactions, its epochs.
func TestOpenKnowsTheLog(t *testing.T) {
	d := disk.New()
	list := []api.Batch{
		at(0, 1, sent(1, 0, 0, "a", "b")),
		at(2, 1, within(2, 3, 0, "c")),
		at(3, 4, marker(2, 3, false)),
		at(4, 4, within(3, 0, 0, "d")),
	}
	logOf(t, d, list...)
	r := openOn(t, d, 0, 0)
	same(t, "Log", r.Log(), list)
	wantMarks(t, "opened", r, 0, 5, 0, 0)
	leads(t, r, 7, 0, 1)
	wantProduce(t, "again", r, list[0], 0, api.OK)
	wantProduce(t, "not the next one", r, sent(1, 0, 3, "x"), 0, api.ErrSeq)
	wantProduce(t, "an older epoch", r, within(2, 2, 0, "x"), 0, api.ErrFenced)
	wantProduce(t, "a marker that ends nothing", r, marker(2, 3, true), 4, api.OK)
	same(t, "an epoch that it has", r.Fetch(asking(7, 1, 4, 1)), diverging(7, 1, 3, 4, 1))
	wantErrno(t, "Sync", r.Sync(7, []int{0}), api.OK)
	wantMarks(t, "alone in sync", r, 0, 5, 5, 4)
	_, aborts, _ := r.Committed(0, 9)
	same(t, "aborted", aborts, []api.Abort{{Pid: 2, First: 2, Last: 3}})
}

// TestOpenBehindADrop: the log doesn't begin with 0.
func TestOpenBehindADrop(t *testing.T) {
	d := disk.New()
	big := plain(slices.Repeat([]string{strings.Repeat("b", 64)}, 9)...)
	l := logOf(t, d, big, at(9, 2, big), at(18, 2, within(1, 0, 0, "x")))
	wantErrno(t, "Drop", l.Drop(9), api.OK)
	r := openOn(t, d, 0, 0)
	wantMarks(t, "opened", r, 9, 19, 9, 9)
	same(t, "how many", len(r.Log()), 2)
	leads(t, r, 3, 0)
	wantMarks(t, "leads", r, 9, 19, 19, 18)
}

// TestOpenMakesTheLogLast: what it begins with isn't lost behind a break.
func TestOpenMakesTheLogLast(t *testing.T) {
	d := disk.New()
	logOf(t, d, row(1, 2)...)
	leads(t, openOn(t, d, 0, 0), 3, 0)
	d.Crash(0)
	same(t, "Log", openOn(t, d, 0, 0).Log(), row(1, 2))
}

func TestTwoOnOneDisk(t *testing.T) {
	d := disk.New()
	a, e1 := Open(d, "p0", 0, 0)
	b, e2 := Open(d, "p1", 1, 0)
	if e1 != api.OK || e2 != api.OK {
		t.Fatal(e1, e2)
	}
	leads(t, a, 1, 0)
	leads(t, b, 1, 0)
	laid(t, a, plain("a"))
	laid(t, b, plain("b"), plain("c"))
	wantMarks(t, "the first one", a, 0, 1, 1, 1)
	wantMarks(t, "the second one", b, 0, 2, 2, 2)
}

// P14.2.

func TestEpochsOnlyRise(t *testing.T) {
	r := fresh(t, 0)
	enter := map[string]func(epoch int) api.Errno{
		"Lead":   func(epoch int) api.Errno { return r.Lead(epoch, []int{0}) },
		"Follow": r.Follow,
	}
	epoch := -1
	for i, how := range []string{"Follow", "Lead", "Lead", "Follow", "Follow", "Lead"} {
		for what, call := range enter {
			for _, wrong := range []int{epoch, epoch - 1, -1, -7} {
				wantKept(t, what, r, func() { wantErrno(t, fmt.Sprintf("%s(%d) in %d", what, wrong, epoch), call(wrong), api.ErrLeader) })
			}
		}
		epoch += 1 + i%3
		wantErrno(t, fmt.Sprintf("%s(%d)", how, epoch), enter[how](epoch), api.OK)
		wantRole(t, how, r, epoch, how == "Lead")
	}
}

func TestLeadBeginsAnew(t *testing.T) {
	r := leader(t, 1, 0, 1)
	laid(t, r, plain("a"))
	asks(t, r, 1, 1)
	r.Asked([]int{0, 1, 2})
	wantHigh(t, "asked from 1", r, 1)
	laid(t, r, plain("b"))

	leads(t, r, 2, 0, 1)
	wantHigh(t, "nobody has asked in this epoch", r, 1)
	same(t, "Ready", r.Ready(), false)
	wantWant(t, "nobody is asked for", r, everybody(), []int{0, 1}, false)
	// Its epoch is 2, but the last batch is of 1.
	r.Fetch(asking(2, 1, 2, 1))
	wantHigh(t, "asked from 2", r, 2)
	same(t, "Ready", r.Ready(), true)
}

// TestLeadRises: of one that is alone in sync the high watermark is the log's end at once.
func TestLeadRises(t *testing.T) {
	r := leader(t, 1, 0, 1)
	laid(t, r, plain("a"), plain("b"))
	wantHigh(t, "of two", r, 0)
	leads(t, r, 2, 0)
	wantHigh(t, "alone", r, 2)
	same(t, "Ready", r.Ready(), true)
}

func TestFollowLeadsNoMore(t *testing.T) {
	r := leader(t, 1, 0)
	laid(t, r, plain("a"))
	wantErrno(t, "Follow", r.Follow(2), api.OK)
	wantMarks(t, "follows", r, 0, 1, 1, 1)
	wantProduce(t, "follows", r, plain("b"), 0, api.ErrLeader)
	wantErrno(t, "Sync", r.Sync(2, []int{0}), api.ErrLeader)
	wantWant(t, "follows", r, everybody(), nil, false)
	same(t, "Ready", r.Ready(), false)
	same(t, "Fetch", r.Fetch(asking(2, 1, 0, -1)), api.FetchReply{Epoch: 2, E: api.ErrLeader})
	wantKept(t, "Asked", r, func() { r.Asked([]int{1}) })
	wantKept(t, "Tick", r, r.Tick)
}

func TestSync(t *testing.T) {
	r := leader(t, 3, 0, 1, 2)
	laid(t, r, plain("a"), plain("b"))
	asks(t, r, 1, 1)
	wantHigh(t, "of three", r, 0)
	for _, epoch := range []int{2, 4, -1, 0} {
		wantKept(t, "Sync", r, func() { wantErrno(t, "Sync of another epoch", r.Sync(epoch, []int{0}), api.ErrLeader) })
	}
	r.Asked([]int{2})
	wantErrno(t, "Sync", r.Sync(3, []int{0, 1}), api.OK)
	wantHigh(t, "without 2", r, 1)
	wantWant(t, "nobody is asked for", r, everybody(), []int{0, 1}, false)
	wantErrno(t, "Sync", r.Sync(3, []int{0}), api.OK)
	wantHigh(t, "alone", r, 2)
	wantErrno(t, "Sync", r.Sync(3, []int{0, 1, 2}), api.OK)
	wantHigh(t, "never falls", r, 2)
	wantErrno(t, "Sync of one that doesn't lead", fresh(t, 0).Sync(-1, []int{0}), api.ErrLeader)
}

// TestListsAreNotKept: neither Lead's nor Sync's nor Asked's.
func TestListsAreNotKept(t *testing.T) {
	list := []int{0, 1}
	r := fresh(t, 0)
	wantErrno(t, "Lead", r.Lead(1, list), api.OK)
	list[1] = 0
	laid(t, r, plain("a"))
	wantHigh(t, "behind Lead", r, 0)
	list[1] = 2
	wantErrno(t, "Sync", r.Sync(1, list), api.OK)
	list[1] = 0
	laid(t, r, plain("b"))
	wantHigh(t, "behind Sync", r, 0)
	wantErrno(t, "Sync", r.Sync(1, nil), api.OK)
	list[1] = 3
	r.Asked(list)
	list[1] = 0
	laid(t, r, plain("c"))
	wantHigh(t, "behind Asked", r, 2)
}

// Nil, and what Open hasn't answered.

func TestNobody(t *testing.T) {
	for what, r := range map[string]*Replica{"nil": nil, "zero": {}} {
		wantErrno(t, what+": Lead", r.Lead(1, []int{0}), api.ErrState)
		wantErrno(t, what+": Follow", r.Follow(1), api.ErrState)
		wantErrno(t, what+": Sync", r.Sync(0, []int{0}), api.ErrState)
		wantErrno(t, what+": Accept", r.Accept(api.FetchReply{}), api.ErrState)
		wantProduce(t, what, r, plain("a"), 0, api.ErrState)
		same(t, what+": Fetch", r.Fetch(asking(0, 1, 0, -1)), api.FetchReply{E: api.ErrState})
		q, ok := r.Need()
		same(t, what+": Need", fmt.Sprint(q, ok), fmt.Sprint(api.FetchReq{}, false))
		r.Tick()
		r.Asked([]int{1})
		wantWant(t, what, r, everybody(), nil, false)
		same(t, what+": Ready", r.Ready(), false)
		wantMarks(t, what, r, 0, 0, 0, 0)
		same(t, what+": Committed", fmt.Sprint(r.Committed(0, 9)), "[] [] 0")
		same(t, what+": Log", r.Log(), []api.Batch{})
		wantRole(t, what, r, 0, false)
	}
}

// P1: numbers about their ends, and a log that begins there.

func TestNumbersAboutTheirEnds(t *testing.T) {
	numbers := []int{math.MinInt, math.MinInt + 1, -1, 0, 1, math.MaxInt - 1, math.MaxInt}
	for _, start := range []string{"00000000", "9223372036854775805", "9223372036854775807"} {
		d := disk.New()
		wantErrno(t, "Append", d.Append("p0."+start, nil), api.OK)
		for _, x := range numbers {
			for _, y := range numbers {
				r := openOn(t, d, 0, 0)
				r.Accept(answer(-1, x, at(y, 1, plain("a", "b"))))
				r.Accept(diverging(-1, x, y, y, x))
				r.Accept(diverging(-1, x, y, 0, -1))
				r.Follow(x)
				r.Need()
				r.Accept(answer(x, y, at(x, y, plain("a"))))
				r.Lead(y, []int{x, y, 0})
				r.Sync(y, []int{0, x})
				r.Sync(y, []int{0})
				r.Produce(at(x, y, plain("a", "b")))
				r.Produce(at(y, x, sent(1, x, y, "a")))
				r.Produce(marker(1, y, true))
				r.Fetch(asking(y, 1, x, y))
				r.Fetch(asking(y, x, y, x))
				r.Asked([]int{x, y})
				r.Tick()
				r.Want([]int{x, y})
				r.Committed(x, y)
				view(r)
			}
		}
	}
}
