package image

import (
	"math"
	"testing"

	"penstock/api"
)

// P13.3: Apply.

func TestApplyOfWhatThereIsnt(t *testing.T) {
	m := here(t, 3, 2, 2)
	for _, n := range outside(3) {
		wantRefused(t, "no node", m, join(n, 9), api.ErrArg)
		wantRefused(t, "no node", m, fence(n), api.ErrArg)
		wantRefused(t, "no node", m, block(n), api.ErrArg)
		wantRefused(t, "no node", m, isr(0, n, 1, 0, 0, 1), api.ErrArg)
		wantRefused(t, "no node", m, isr(0, 0, 1, 0, 0, n), api.ErrArg)
		wantRefused(t, "no node", m, isr(0, 0, 1, 0, n), api.ErrArg)
		wantRefused(t, "no node", m, isr(0, 0, 1, 0, n, 0), api.ErrArg)
		wantRefused(t, "no node", m, move(0, n), api.ErrArg)
		wantRefused(t, "no node", m, move(0, n, 1), api.ErrArg)
		wantRefused(t, "no node", m, move(0, 1, n), api.ErrArg)
	}
	for _, k := range outside(2) {
		wantRefused(t, "no partition", m, isr(k, 0, 1, 0, 0, 1), api.ErrArg)
		wantRefused(t, "no partition", m, move(k, 1), api.ErrArg)
	}
	for _, kind := range []int{math.MinInt, -1, 0, 6, 7, math.MaxInt} {
		wantRefused(t, "no kind", m, api.Cmd{Kind: kind, Epoch: 9, List: []int{1}}, api.ErrArg)
		wantRefused(t, "no kind", m, api.Cmd{Kind: kind}, api.ErrArg)
	}
	for _, list := range [][]int{nil, {}, {1, 0}, {0, 0}, {0, 1, 1}, {0, 2, 1}, {2, 1, 0}, {0, 1, 2, 2}} {
		wantRefused(t, "no list", m, isr(0, 0, 1, 0, list...), api.ErrArg)
		wantRefused(t, "no list", m, move(0, list...), api.ErrArg)
	}
	for kind := api.CJoin; kind <= api.CBlock; kind++ {
		wantRefused(t, "too many", m, api.Cmd{Kind: kind, Epoch: 9, List: []int{0, 1, 2, 3, 4, 5}}, api.ErrArg)
	}
}

// TestErrArgComesFirst: each command would be refused by another error, too.
func TestErrArgComesFirst(t *testing.T) {
	m := done(t, newImage(t, 2, 2, 1), move(0, 1))
	for range 100 {
		done(t, m, block(0))
	}
	wantRefused(t, "a time that has passed", m, join(2, 0), api.ErrArg)
	wantRefused(t, "nobody is there", m, fence(2), api.ErrArg)
	wantRefused(t, "nobody leads", m, isr(0, 0, 7, 7), api.ErrArg)
	wantRefused(t, "nobody leads", m, isr(0, 0, 7, 7, 1, 0), api.ErrArg)
	wantRefused(t, "nobody leads", m, isr(2, 0, 7, 7, 0), api.ErrArg)
	wantRefused(t, "-1 leads nothing", m, isr(0, -1, 0, 0, 0), api.ErrArg)
	wantRefused(t, "it moves", m, move(0), api.ErrArg)
	wantRefused(t, "it moves", m, move(0, 2), api.ErrArg)
	wantRefused(t, "all are spent", m, block(2), api.ErrArg)
	many := make([]int, 6)
	wantRefused(t, "a time that has passed", m, api.Cmd{Kind: api.CJoin, List: many}, api.ErrArg)
	wantRefused(t, "nobody is there", m, api.Cmd{Kind: api.CFence, List: many}, api.ErrArg)
	wantRefused(t, "all are spent", m, api.Cmd{Kind: api.CBlock, List: many}, api.ErrArg)

	wantRefused(t, "a time that has passed", m, join(1, 0), api.ErrState)
	wantRefused(t, "nobody is there", m, fence(1), api.ErrNone)
	wantRefused(t, "nobody leads", m, isr(0, 0, 7, 7, 0), api.ErrLeader)
	wantRefused(t, "it moves", m, move(0, 1), api.ErrBusy)
	wantRefused(t, "all are spent", m, block(1), api.ErrSpent)
}

// TestWhatAKindDoesntName: it may be anything.
func TestWhatAKindDoesntName(t *testing.T) {
	list := []int{9, 9, -1, 0, 3}
	m := done(t, newImage(t, 3, 2, 2),
		api.Cmd{Kind: api.CJoin, Node: 1, Epoch: 1, Part: -1, Version: -7, List: list},
		api.Cmd{Kind: api.CBlock, Node: 1, Epoch: -1, Part: 9, Version: -7, List: list},
		api.Cmd{Kind: api.CMove, Node: -1, Epoch: -1, Version: -7, List: []int{2}},
		api.Cmd{Kind: api.CFence, Node: 1, Epoch: -1, Part: 2, Version: -7, List: list},
	)
	wantNode(t, "four commands", m, 1, false, 1, 1)
	wantPart(t, "four commands", m, 0, moving(part(-1, 2, 0, []int{0, 1}, []int{0, 1}), 2))
	wantPart(t, "four commands", m, 1, part(-1, 2, 0, []int{1, 2}, []int{1, 2}))
}

// CJoin.

func TestJoinTimes(t *testing.T) {
	m := newImage(t, 2, 1, 1)
	for _, time := range []int{0, -1, math.MinInt} {
		wantRefused(t, "no time", m, join(1, time), api.ErrState)
	}
	last := 0
	for _, time := range []int{1, 2, 7, 8, math.MaxInt - 1, math.MaxInt} {
		done(t, m, join(1, time))
		wantNode(t, "CJoin", m, 1, true, time, 0)
		for _, old := range []int{time, time - 1, last, 0, -1, math.MinInt} {
			wantRefused(t, "a time that has passed", m, join(1, old), api.ErrState)
		}
		// Who is fenced remembers the time.
		done(t, m, fence(1))
		wantNode(t, "CFence", m, 1, false, time, 0)
		wantRefused(t, "a time that has passed", m, join(1, time), api.ErrState)
		last = time
	}
	wantNode(t, "of another node", m, 0, false, 0, 0)
}

// TestJoinElects: where nobody leads, and it is in sync, and where it leads; nowhere else.
func TestJoinElects(t *testing.T) {
	m := done(t, newImage(t, 3, 3, 2), join(1, 1))
	wantPart(t, "in sync", m, 0, part(1, 1, 0, []int{0, 1}, []int{0, 1}))
	wantPart(t, "in sync", m, 1, part(1, 1, 0, []int{1, 2}, []int{1, 2}))
	wantPart(t, "not in sync", m, 2, part(-1, 0, 0, []int{0, 2}, []int{0, 2}))

	done(t, m, join(0, 1))
	wantPart(t, "another one leads", m, 0, part(1, 1, 0, []int{0, 1}, []int{0, 1}))
	wantPart(t, "nobody leads", m, 2, part(0, 1, 0, []int{0, 2}, []int{0, 2}))

	// It comes again, without a fence: what it led is led anew, by the first one, or by itself.
	done(t, m, join(1, 2))
	wantPart(t, "it led, and isn't the first", m, 0, part(0, 2, 0, []int{0, 1}, []int{0, 1}))
	wantPart(t, "it led, and nobody else is there", m, 1, part(1, 2, 0, []int{1, 2}, []int{1, 2}))
	wantPart(t, "another one leads", m, 2, part(0, 1, 0, []int{0, 2}, []int{0, 2}))

	done(t, m, join(0, 2))
	wantPart(t, "it led, and is the first", m, 0, part(0, 3, 0, []int{0, 1}, []int{0, 1}))
}

// TestJoinOfWhoIsntInSync: it doesn't lead, though nobody does.
func TestJoinOfWhoIsntInSync(t *testing.T) {
	m := done(t, newImage(t, 2, 1, 2), join(0, 1), join(1, 1), fence(0), fence(1))
	wantPart(t, "both are gone", m, 0, part(-1, 3, 1, []int{1}, []int{0, 1}))
	done(t, m, join(0, 2))
	wantPart(t, "not in sync", m, 0, part(-1, 3, 1, []int{1}, []int{0, 1}))
	done(t, m, join(1, 2))
	wantPart(t, "in sync", m, 0, part(1, 4, 1, []int{1}, []int{0, 1}))
}

// CFence.

func TestFence(t *testing.T) {
	m := newImage(t, 3, 2, 3)
	for n := range 3 {
		wantRefused(t, "it never came", m, fence(n), api.ErrNone)
	}
	done(t, m, join(2, 1), join(1, 1), join(0, 1))
	all := []int{0, 1, 2}
	wantPart(t, "all are there", m, 0, part(2, 1, 0, all, all))

	done(t, m, fence(1))
	wantPart(t, "it doesn't lead", m, 0, part(2, 1, 1, []int{0, 2}, all))
	wantPart(t, "it doesn't lead", m, 1, part(2, 1, 1, []int{0, 2}, all))
	wantRefused(t, "it is gone", m, fence(1), api.ErrNone)

	done(t, m, fence(2))
	wantPart(t, "it leads", m, 0, part(0, 2, 2, []int{0}, all))
	done(t, m, fence(0))
	wantPart(t, "it leads, and is alone", m, 0, part(-1, 3, 2, []int{0}, all))
	for n := range 3 {
		wantNode(t, "all are gone", m, n, false, 1, 0)
		wantRefused(t, "it is gone", m, fence(n), api.ErrNone)
	}
}

// TestFenceOfWhoIsntInSync: its partitions stay as they are.
func TestFenceOfWhoIsntInSync(t *testing.T) {
	m := done(t, here(t, 3, 3, 2), isr(0, 0, 1, 0, 0))
	before := part(0, 1, 1, []int{0}, []int{0, 1})
	wantPart(t, "without 1", m, 0, before)
	done(t, m, fence(1))
	wantPart(t, "it isn't in sync", m, 0, before)
	wantPart(t, "it leads", m, 1, part(2, 2, 1, []int{2}, []int{1, 2}))
	wantPart(t, "it isn't there at all", m, 2, part(0, 1, 0, []int{0, 2}, []int{0, 2}))
}

// TestFenceWhereOthersAreGone: one that is in sync, but isn't there, is no other one to go on with.
func TestFenceWhereOthersAreGone(t *testing.T) {
	m := done(t, newImage(t, 3, 1, 3), join(1, 1), join(2, 1), fence(1))
	wantPart(t, "2 is there", m, 0, part(2, 2, 1, []int{0, 2}, []int{0, 1, 2}))
	done(t, m, fence(2))
	wantPart(t, "0 never came", m, 0, part(-1, 3, 1, []int{0, 2}, []int{0, 1, 2}))
	done(t, m, join(0, 1))
	wantPart(t, "0 leads", m, 0, part(0, 4, 1, []int{0, 2}, []int{0, 1, 2}))
}

// CIsr.

func TestIsr(t *testing.T) {
	all := []int{0, 1, 2}
	m := here(t, 4, 1, 3)
	wantPart(t, "all are there", m, 0, part(0, 1, 0, all, all))
	done(t, m, isr(0, 0, 1, 0, 0))
	wantPart(t, "CIsr", m, 0, part(0, 1, 1, []int{0}, all))
	done(t, m, isr(0, 0, 1, 1, 0, 2))
	wantPart(t, "CIsr", m, 0, part(0, 1, 2, []int{0, 2}, all))
	done(t, m, isr(0, 0, 1, 2, 0, 2))
	wantPart(t, "the same list", m, 0, part(0, 1, 3, []int{0, 2}, all))
	done(t, m, isr(0, 0, 1, 3, 0, 1, 2))
	wantPart(t, "CIsr", m, 0, part(0, 1, 4, all, all))
}

func TestIsrOfWhoDoesntLead(t *testing.T) {
	m := done(t, here(t, 3, 2, 3), fence(2), fence(0))
	all := []int{0, 1, 2}
	wantPart(t, "1 leads", m, 1, part(1, 2, 2, []int{1}, all))
	for _, c := range []api.Cmd{
		isr(1, 0, 2, 2, 0, 1), isr(1, 2, 2, 2, 1, 2), isr(1, 0, 2, 2, 1),
		isr(1, 1, 1, 2, 1), isr(1, 1, 3, 2, 1), isr(1, 1, 0, 2, 1), isr(1, 1, -2, 2, 1), isr(1, 1, math.MaxInt, 2, 1),
		isr(1, 1, 2, 1, 1), isr(1, 1, 2, 3, 1), isr(1, 1, 2, 0, 1), isr(1, 1, 2, -2, 1), isr(1, 1, 2, math.MinInt, 1),
		// ErrState would hold, too.
		isr(1, 1, 1, 2, 0), isr(1, 1, 2, 1, 0), isr(1, 0, 2, 2, 2), isr(1, 1, 3, 3, 0, 1, 2),
	} {
		wantRefused(t, "it doesn't lead so", m, c, api.ErrLeader)
	}
	done(t, m, isr(1, 1, 2, 2, 1))

	none := newImage(t, 2, 1, 2)
	wantRefused(t, "nobody leads", none, isr(0, 0, 0, 0, 0), api.ErrLeader)
	done(t, none, join(0, 1), fence(0))
	wantRefused(t, "nobody leads any more", none, isr(0, 0, 2, 0, 0), api.ErrLeader)
}

func TestIsrOfWhoMayNot(t *testing.T) {
	m := done(t, newImage(t, 5, 1, 3), join(0, 1), join(3, 1))
	all := []int{0, 1, 2}
	wantPart(t, "0 and 3 are there", m, 0, part(0, 1, 0, all, all))
	wantRefused(t, "without itself", m, isr(0, 0, 1, 0, 1), api.ErrState)
	wantRefused(t, "without itself", m, isr(0, 0, 1, 0, 1, 2), api.ErrState)
	wantRefused(t, "3 is no replica", m, isr(0, 0, 1, 0, 0, 3), api.ErrState)
	wantRefused(t, "3 is no replica", m, isr(0, 0, 1, 0, 0, 1, 2, 3), api.ErrState)
	// 1 and 2 aren't there, but are in sync.
	done(t, m, isr(0, 0, 1, 0, 0, 1, 2), isr(0, 0, 1, 1, 0, 2))
	wantPart(t, "without 1", m, 0, part(0, 1, 2, []int{0, 2}, all))
	wantRefused(t, "1 is neither there nor in sync", m, isr(0, 0, 1, 2, 0, 1), api.ErrState)
	wantRefused(t, "1 is neither there nor in sync", m, isr(0, 0, 1, 2, 0, 1, 2), api.ErrState)
	done(t, m, join(1, 1), isr(0, 0, 1, 2, 0, 1))
	wantPart(t, "1 is there", m, 0, part(0, 1, 3, []int{0, 1}, all))
	wantRefused(t, "2 is neither there nor in sync", m, isr(0, 0, 1, 3, 0, 2), api.ErrState)

	// Of Target one may be in sync, if it is there.
	done(t, m, move(0, 3, 4))
	wantRefused(t, "4 isn't there", m, isr(0, 0, 1, 3, 0, 4), api.ErrState)
	done(t, m, isr(0, 0, 1, 3, 0, 3))
	wantPart(t, "3 is of Target", m, 0, moving(part(0, 1, 4, []int{0, 3}, all), 3, 4))
}

// CMove.

func TestMoveToOthers(t *testing.T) {
	m := done(t, here(t, 4, 1, 2), move(0, 2, 3))
	two := []int{0, 1}
	wantPart(t, "CMove", m, 0, moving(part(0, 1, 0, two, two), 2, 3))
	wantRefused(t, "it moves", m, move(0, 2, 3), api.ErrBusy)
	wantRefused(t, "it moves", m, move(0, 0), api.ErrBusy)
	done(t, m, isr(0, 0, 1, 0, 0, 1, 2))
	wantPart(t, "2 is in sync", m, 0, moving(part(0, 1, 1, []int{0, 1, 2}, two), 2, 3))
	wantRefused(t, "it moves", m, move(0, 1), api.ErrBusy)
	// The end counts as one more Version, and as 0 goes another one leads.
	done(t, m, isr(0, 0, 1, 1, 0, 1, 2, 3))
	wantPart(t, "it has moved", m, 0, part(2, 2, 3, []int{2, 3}, []int{2, 3}))
	done(t, m, move(0, 1))
	wantPart(t, "it moves again", m, 0, moving(part(2, 2, 3, []int{2, 3}, []int{2, 3}), 1))
}

// TestMoveWithTheLeader: it is of Target, so it goes on.
func TestMoveWithTheLeader(t *testing.T) {
	m := done(t, here(t, 3, 1, 2), move(0, 0, 2), isr(0, 0, 1, 0, 0, 2))
	wantPart(t, "it has moved", m, 0, part(0, 1, 2, []int{0, 2}, []int{0, 2}))
}

// TestMoveWithinIsr: it ends at once.
func TestMoveWithinIsr(t *testing.T) {
	m := done(t, here(t, 3, 1, 3), move(0, 0, 2))
	wantPart(t, "0 goes on", m, 0, part(0, 1, 1, []int{0, 2}, []int{0, 2}))
	done(t, m, move(0, 2))
	wantPart(t, "2 leads", m, 0, part(2, 2, 2, []int{2}, []int{2}))
	done(t, m, move(0, 2))
	wantPart(t, "as it was", m, 0, part(2, 2, 3, []int{2}, []int{2}))
}

// TestMoveWhereNobodyLeads: -1 isn't in Isr, so at the end it is elected, though nobody can be.
func TestMoveWhereNobodyLeads(t *testing.T) {
	m := done(t, newImage(t, 3, 1, 2), move(0, 1))
	wantPart(t, "within Isr", m, 0, part(-1, 1, 1, []int{1}, []int{1}))
	done(t, m, move(0, 2))
	wantPart(t, "to another one", m, 0, moving(part(-1, 1, 1, []int{1}, []int{1}), 2))
	done(t, m, join(2, 1))
	wantPart(t, "2 isn't in sync", m, 0, moving(part(-1, 1, 1, []int{1}, []int{1}), 2))
	done(t, m, join(1, 1), isr(0, 1, 2, 1, 1, 2))
	wantPart(t, "it has moved", m, 0, part(2, 3, 3, []int{2}, []int{2}))
}

// TestMoveToWhoIsGone: at the end nobody that is there is in sync.
func TestMoveToWhoIsGone(t *testing.T) {
	m := done(t, newImage(t, 2, 1, 2), join(0, 1), move(0, 1))
	wantPart(t, "it has moved", m, 0, part(-1, 2, 1, []int{1}, []int{1}))
	done(t, m, join(1, 1))
	wantPart(t, "1 has come", m, 0, part(1, 3, 1, []int{1}, []int{1}))
}

// TestMoveStaysBehindAFence: neither a fence nor a join ends it.
func TestMoveStaysBehindAFence(t *testing.T) {
	m := done(t, here(t, 3, 1, 2), move(0, 1, 2), isr(0, 0, 1, 0, 0, 2), fence(0))
	wantPart(t, "2 leads", m, 0, moving(part(2, 2, 2, []int{2}, []int{0, 1}), 1, 2))
	done(t, m, join(0, 2))
	wantPart(t, "0 isn't in sync", m, 0, moving(part(2, 2, 2, []int{2}, []int{0, 1}), 1, 2))
	done(t, m, isr(0, 2, 2, 2, 1, 2))
	wantPart(t, "it has moved", m, 0, part(2, 2, 4, []int{1, 2}, []int{1, 2}))
}

// TestMoveOfOne: the others stay.
func TestMoveOfOne(t *testing.T) {
	m := done(t, here(t, 3, 3, 1), move(1, 0))
	wantPart(t, "ahead of it", m, 0, part(0, 1, 0, []int{0}, []int{0}))
	wantPart(t, "it", m, 1, moving(part(1, 1, 0, []int{1}, []int{1}), 0))
	wantPart(t, "behind it", m, 2, part(2, 1, 0, []int{2}, []int{2}))
	done(t, m, move(0, 1), isr(1, 1, 1, 0, 0, 1))
	wantPart(t, "ahead of it", m, 0, moving(part(0, 1, 0, []int{0}, []int{0}), 1))
	wantPart(t, "it", m, 1, part(0, 2, 2, []int{0}, []int{0}))
	wantPart(t, "behind it", m, 2, part(2, 1, 0, []int{2}, []int{2}))
}

// CBlock.

func TestBlocks(t *testing.T) {
	m := newImage(t, 3, 1, 1)
	for i := range 100 {
		n := i % 2
		done(t, m, block(n))
		first := uint64(1 + 10*i)
		wantNode(t, "CBlock", m, n, false, 0, first)
		wantPids(t, "CBlock", m, first+10, 1000-10*uint64(i+1))
	}
	wantNode(t, "the last but one", m, 0, false, 0, 981)
	for n := range 3 {
		wantRefused(t, "all are spent", m, block(n), api.ErrSpent)
	}
	wantNode(t, "it never asked", m, 2, false, 0, 0)
}

// TestBlockStays: a node that goes and comes keeps its block, till it asks again.
func TestBlockStays(t *testing.T) {
	m := done(t, newImage(t, 2, 1, 1), join(1, 1), block(1), fence(1))
	wantNode(t, "CFence", m, 1, false, 1, 1)
	done(t, m, join(1, 2))
	wantNode(t, "CJoin", m, 1, true, 2, 1)
	done(t, m, block(0), block(1))
	wantNode(t, "CBlock", m, 1, true, 2, 21)
}

// TestFewerThanABlock: an image that was read may have some numbers left, that are too few.
func TestFewerThanABlock(t *testing.T) {
	for _, x := range []struct {
		next uint64
		want api.Errno
	}{{990, api.OK}, {991, api.OK}, {992, api.ErrSpent}, {1000, api.ErrSpent}, {1001, api.ErrSpent}} {
		m := readFrom(t, plain(func(s *shape) { s.next = x.next }))
		wantPids(t, "Read", m, x.next, 1001-x.next)
		if x.want != api.OK {
			wantRefused(t, "too few are left", m, block(0), x.want)
			continue
		}
		done(t, m, block(0))
		wantNode(t, "CBlock", m, 0, true, 4, x.next)
		wantPids(t, "CBlock", m, x.next+10, 991-x.next)
	}
}
