package client

import (
	"fmt"
	"math"
	"testing"

	"penstock/api"
)

// Reading: OPoll.

// joins lets it join, where of four partitions the last two fall to it.
func (x *talk) joins(gen int) {
	x.t.Helper()
	x.asks(join)
	x.told(team(gen, 0, 5, 1, 1))
}

// seeks lets it know where the group has come to.
func (x *talk) seeks(part, offset int) {
	x.t.Helper()
	x.asks(offsetOf(part))
	x.told(api.Msg{Offset: offset})
}

// reads lets it read what an answer tells.
func (x *talk) reads(part, offset int, m api.Msg) {
	x.t.Helper()
	x.asks(readFrom(part, offset))
	x.told(m)
}

// TestPoll: partitions are read by turns, till there is no more; then it is said how far the group has come.
func TestPoll(t *testing.T) {
	x := member(t, 3, poll(16), poll(16))
	x.joins(9)
	x.seeks(2, 5)
	x.reads(2, 5, batches(8, records(5, "a"), records(6, "b")))
	x.seeks(3, 0)
	x.reads(3, 0, batches(9, records(0, "c", "d"), records(2, "e")))
	x.reads(2, 7, batches(8, records(7, "f")))
	// Of this one there is no more now.
	x.reads(3, 3, batches(9, records(3, "g")))
	x.reads(3, 4, batches(5, records(4, "h")))
	x.asks(commitAt(9, 2, 8))
	x.told(api.Msg{})
	x.asks(commitAt(9, 3, 5))
	x.told(api.Msg{})
	x.stands(1, 0, false)
	// The next one begins where the group is by then.
	x.asks(join)
	x.told(team(10, 0, 1, 5, 5))
	x.seeks(1, 40)
	x.reads(1, 40, batches(40))
	x.ends()
	x.sees(seek(0, 2, 5), read(0, 2, 5, "a"), read(0, 2, 6, "b"), seek(0, 3, 0), read(0, 3, 0, "c"), read(0, 3, 1, "d"), read(0, 3, 2, "e"),
		read(0, 2, 7, "f"), read(0, 3, 3, "g"), read(0, 3, 4, "h"), seek(1, 1, 40), seen(api.TrDone, 2))
}

// TestPollEnough: it reads no more than it should, and not what it needn't.
func TestPollEnough(t *testing.T) {
	x := writer(t, poll(3), poll(3), poll(1), commits)
	x.joins(1)
	x.seeks(2, 0)
	x.reads(2, 0, batches(9, records(0, "a"), records(1, "b", "c", "d"), records(4, "e"), marker(5, 7, true)))
	x.asks(commitAt(1, 2, 3))
	x.told(api.Msg{})
	// It goes on in the middle of the batch.
	x.joins(1)
	x.seeks(2, 3)
	x.reads(2, 3, batches(9, records(1, "b", "c", "d"), records(4, "e"), marker(5, 7, true)))
	x.seeks(3, 7)
	x.reads(3, 7, batches(9, records(7, "f"), records(8, "g")))
	x.asks(commitAt(1, 2, 6))
	x.told(api.Msg{})
	x.asks(commitAt(1, 3, 8))
	x.told(api.Msg{})
	x.joins(1)
	x.seeks(2, 6)
	x.reads(2, 6, batches(9, marker(6, 7, true), records(7, "h")))
	x.asks(commitAt(1, 2, 8))
	x.told(api.Msg{})
	x.ends()
	x.sees(seek(0, 2, 0), read(0, 2, 0, "a"), read(0, 2, 1, "b"), read(0, 2, 2, "c"),
		seek(1, 2, 3), read(1, 2, 3, "d"), read(1, 2, 4, "e"), seek(1, 3, 7), read(1, 3, 7, "f"),
		seek(2, 2, 6), read(2, 2, 7, "h"), seen(api.TrCommit, 3), seen(api.TrDone, 4))
}

// TestPassedOver: markers and what was aborted are passed over, and nothing else.
func TestPassedOver(t *testing.T) {
	list := []api.Batch{
		at(10, within(5, 0, 0, "a", "b")),  // of a transaction that was aborted
		at(12, within(6, 0, 0, "c")),       // of another producer
		at(13, within(5, 0, 2, "d")),       // aborted, too
		at(14, records(14, "e")),           // without a producer
		marker(15, 5, false),               //
		at(16, within(5, 2, 0, "f")),       // the next transaction
		marker(17, 6, true),                //
		at(18, within(8, 0, 0, "g", "h")),  // begins ahead of what is told
		at(20, records(20, "i")),           //
		at(21, within(9, 0, 0, "j")),       // aborted
		marker(22, 9, false),               //
		at(23, within(9, 2, 0, "k", "kk")), // aborted again
	}
	list[8].Pid = 9 // idempotent, but of no transaction
	x := writer(t, poll(16))
	x.asks(join)
	x.told(team(1, 1))
	x.seeks(0, 10)
	m := batches(25, list...)
	m.Aborts = []api.Abort{{Pid: 5, First: 10, Last: 15}, {Pid: 8, First: 19, Last: 30}, {Pid: 9, First: 20, Last: 22}, {Pid: 9, First: 23, Last: 26}, {Pid: 6, First: 13, Last: 30}, {Pid: 6, First: 0, Last: 12}}
	x.reads(0, 10, m)
	for k := 1; k < 4; k++ {
		x.seeks(k, 0)
		x.reads(k, 0, batches(0))
	}
	x.asks(commitAt(1, 0, 25))
	x.told(api.Msg{})
	x.ends()
	x.sees(seek(0, 0, 10), read(0, 0, 12, "c"), read(0, 0, 14, "e"), read(0, 0, 16, "f"), read(0, 0, 18, "g"), read(0, 0, 19, "h"), read(0, 0, 20, "i"),
		seek(0, 1, 0), seek(0, 2, 0), seek(0, 3, 0), seen(api.TrDone, 1))
}

// TestOnlyPassedOver: where nothing is read the group goes on all the same.
func TestOnlyPassedOver(t *testing.T) {
	x := writer(t, poll(1))
	x.asks(join)
	x.told(team(1, 0, 1, 2, 2))
	x.seeks(1, 3)
	x.reads(1, 3, batches(9, marker(3, 7, true), marker(4, 7, true)))
	m := batches(7, at(5, within(7, 4, 0, "a")), marker(6, 7, false))
	m.Aborts = []api.Abort{{Pid: 7, First: 5, Last: 6}}
	x.reads(1, 5, m)
	x.asks(commitAt(1, 1, 7))
	x.told(api.Msg{})
	x.ends()
	x.sees(seek(0, 1, 3), seen(api.TrDone, 1))
}

// TestNothingFalls: to who has no partition there is nothing to read.
func TestNothingFalls(t *testing.T) {
	for _, members := range [][]int{nil, {0}, {0, 2}, {7, 8, 9, 10, 1}} {
		x := writer(t, poll(5), commits)
		x.asks(join)
		x.told(team(1, members...))
		x.ends()
		x.sees(seen(api.TrCommit, 1), seen(api.TrDone, 2))
	}
}

// TestNothingNew: where the group has come to the end already nothing is said.
func TestNothingNew(t *testing.T) {
	x := writer(t, poll(5))
	x.joins(1)
	x.seeks(2, 5)
	x.reads(2, 5, batches(5))
	x.seeks(3, 6)
	x.reads(3, 6, batches(2)) // a leader that knows less
	x.ends()
	x.sees(seek(0, 2, 5), seek(0, 3, 6), seen(api.TrDone, 1))
}

// TestGenerationHasPassed: who may not say it any more asks for the generation that there is now, and says what it may.
func TestGenerationHasPassed(t *testing.T) {
	begin := func() *talk {
		x := writer(t, send(2, "s"), poll(2), commits)
		x.begins()
		x.sends(4, 2, 5, "s")
		x.joins(1)
		x.seeks(2, 0)
		x.reads(2, 0, batches(5, records(0, "a")))
		x.seeks(3, 0)
		x.reads(3, 0, batches(5, records(0, "b"), records(1, "c")))
		x.asks(commitAt(1, 2, 1))
		x.refused(api.ErrGen)
		x.silent()
		x.stands(1, 0, false)
		x.asks(join)
		return x
	}
	goesOn := func(x *talk) {
		t.Helper()
		x.asks(end(7, 4, true))
		x.told(api.Msg{Epoch: 6})
		x.ends()
		x.sees(sent(0, 2, 5, "s"), seek(1, 2, 0), read(1, 2, 0, "a"), seek(1, 3, 0), read(1, 3, 0, "b"), seen(api.TrCommit, 2), seen(api.TrDone, 3))
	}
	x := begin()
	x.told(team(2, 0, 1, 1, 0)) // only 2 falls to it still
	x.asks(commitAt(2, 2, 1))
	x.told(api.Msg{})
	goesOn(x)

	x = begin()
	x.told(team(2, 0, 5, 5, 1)) // only 3
	x.asks(commitAt(2, 3, 1))
	x.refused(api.ErrGen)
	x.asks(join)
	x.told(team(3, 1))
	x.asks(commitAt(3, 3, 1))
	x.told(api.Msg{})
	goesOn(x)

	x = begin()
	x.told(team(2, 1, 0)) // only 2, and 0, of which there is nothing to say
	x.asks(commitAt(2, 2, 1))
	x.told(api.Msg{})
	goesOn(x)

	x = begin()
	x.told(team(2, 0))
	goesOn(x)
}

// TestPollAgain: who begins anew begins the operation anew.
func TestPollAgain(t *testing.T) {
	x := writer(t, commits, poll(4))
	x.ticks(1)
	x.joins(1)
	x.again()
	x.joins(1)
	x.seeks(2, 0)
	x.again()
	x.joins(1)
	x.seeks(2, 0)
	x.reads(2, 0, batches(9, records(0, "a", "b")))
	x.again()
	x.joins(2)
	x.seeks(2, 1)
	x.reads(2, 1, batches(9, records(0, "a", "b"), records(2, "c", "d", "e", "f")))
	x.asks(commitAt(2, 2, 5))
	x.again()
	x.joins(2)
	x.seeks(2, 5)
	x.reads(2, 5, batches(6, records(2, "c", "d", "e", "f")))
	x.seeks(3, 0)
	x.reads(3, 0, batches(0))
	x.asks(commitAt(2, 2, 6))
	x.told(api.Msg{})
	x.ends()
	x.stands(2, 4, true)
	x.sees(seen(api.TrCommit, 0), seek(1, 2, 0), seek(1, 2, 0), read(1, 2, 0, "a"), read(1, 2, 1, "b"),
		seek(1, 2, 1), read(1, 2, 1, "b"), read(1, 2, 2, "c"), read(1, 2, 3, "d"), read(1, 2, 4, "e"), seek(1, 2, 5), read(1, 2, 5, "f"), seek(1, 3, 0), seen(api.TrDone, 2))
}

// TestPollRefused: by other errors it begins anew, too.
func TestPollRefused(t *testing.T) {
	for _, e := range others {
		x := writer(t, poll(1))
		x.asks(join)
		x.refused(e)
		x.joins(1)
		x.asks(offsetOf(2))
		x.refused(e)
		x.joins(1)
		x.seeks(2, 0)
		x.asks(readFrom(2, 0))
		x.refused(e)
		x.stands(0, 3, false)
		x.joins(1)
		x.seeks(2, 0)
		x.reads(2, 0, batches(1, records(0, "a")))
		x.asks(commitAt(1, 2, 1))
		x.told(api.Msg{})
		x.ends()
	}
}

// TestStrangeAnswers: an answer that fits nothing ends, too.
func TestStrangeAnswers(t *testing.T) {
	x := writer(t, poll(3), poll(3), poll(2))
	x.joins(math.MaxInt)
	x.seeks(2, math.MaxInt)
	x.reads(2, math.MaxInt, batches(0, records(0, "a"), records(math.MaxInt-1, "b", "c"), marker(5, 7, true)))
	x.seeks(3, -1)
	x.reads(3, -1, batches(-1, records(-2, "d", "e"), api.Batch{Base: 4}))
	// What moves there is read on, whatever High says.
	x.reads(2, 6, batches(0))
	x.reads(3, 0, batches(-1, records(0, "f")))
	x.asks(commitAt(math.MaxInt, 2, 6))
	x.told(api.Msg{})
	x.asks(commitAt(math.MaxInt, 3, 1))
	x.told(api.Msg{})
	x.joins(-1)
	x.seeks(2, 3)
	x.reads(2, 3, batches(100, records(0, "g"), marker(1, 7, true))) // all of it stands ahead
	x.seeks(3, 0)
	x.reads(3, 0, api.Msg{High: 4, Aborts: []api.Abort{{Pid: 7, Last: 9}}, Batches: []api.Batch{at(math.MaxInt, within(7, 0, 0, "h"))}})
	x.reads(3, math.MinInt, batches(3, at(2, within(7, 0, 0, "i", "j", "k")))) // behind the last offset of all comes the first one
	x.asks(commitAt(-1, 3, 4))
	x.sees(seek(0, 2, math.MaxInt), read(0, 2, math.MaxInt, "c"), seek(0, 3, -1), read(0, 3, -1, "e"), read(0, 3, 0, "f"),
		seek(1, 2, 3), seek(1, 3, 0), read(1, 3, math.MaxInt, "h"), read(1, 3, 2, "i"), read(1, 3, 3, "j"))
}

// OCopy.

// copier is a client that has read two records, and a marker behind them.
func copier(t *testing.T, ops ...api.Op) *talk {
	t.Helper()
	x := writer(t, ops...)
	x.asks(join)
	x.told(team(4, 1))
	x.seeks(2, 5)
	x.reads(2, 5, batches(8, records(5, "a"), records(6, "b"), marker(7, 3, true)))
	return x
}

// copies lets it write what it has read to a partition, by a transaction that begins with that.
func (x *talk) copies(epoch, to int, values ...string) {
	x.t.Helper()
	for _, k := range []int{5, to} {
		x.asks(add(7, epoch, k))
		x.told(api.Msg{})
	}
	x.asks(produce(to, within(7, epoch, 0, values...)))
	x.told(api.Msg{Offset: 30})
}

// TestCopy: it reads, and writes that, and how far the group has come, by one transaction.
func TestCopy(t *testing.T) {
	x := copier(t, copyTo(2, 1, 5), copyTo(2, 1, 2), send(1, "c"))
	x.begins()
	x.copies(4, 1, "a", "b")
	told := api.Msg{Kind: api.MTxCommit, Gen: 4, Part: 2, Offset: 8, Pid: 7, Epoch: 4}
	x.asks(told)
	x.told(api.Msg{})
	x.asks(end(7, 4, true))
	x.told(api.Msg{Epoch: 6})
	x.stands(1, 0, false)
	// It has its producer now.
	x.asks(join)
	x.told(team(5, 0, 5, 1))
	x.seeks(2, 8)
	x.reads(2, 8, batches(30, marker(8, 3, true), records(9, "d")))
	x.reads(2, 10, batches(30, records(10, "e", "f")))
	x.copies(6, 1, "d", "e")
	told.Gen, told.Offset, told.Epoch = 5, 11, 6
	x.asks(told)
	x.told(api.Msg{})
	x.asks(end(7, 6, true))
	x.told(api.Msg{Epoch: 8})
	x.sends(8, 1, 50, "c")
	x.ends()
	x.sees(seek(0, 2, 5), read(0, 2, 5, "a"), read(0, 2, 6, "b"), seen(api.TrCommit, 0),
		seek(1, 2, 8), read(1, 2, 9, "d"), read(1, 2, 10, "e"), seen(api.TrCommit, 1), sent(2, 1, 50, "c"), seen(api.TrDone, 3))
}

// TestNothingToCopy: of what doesn't fall to it, or where there is nothing to read, nothing is written.
func TestNothingToCopy(t *testing.T) {
	x := writer(t, copyTo(2, 1, 5), copyTo(2, 1, 5), copyTo(2, 1, 5), copyTo(3, 1, 5))
	x.asks(join)
	x.told(team(4, 1, 0)) // 0 falls to it, too, but isn't asked for
	x.seeks(2, 5)
	x.reads(2, 5, batches(5))
	x.asks(join)
	x.told(team(4, 1, 0))
	x.seeks(2, 5)
	x.reads(2, 5, batches(6, marker(5, 3, true)))
	x.asks(join)
	x.told(team(4, 0))
	x.asks(join)
	x.told(team(4, 1, 0))
	x.ends()
	x.sees(seek(0, 2, 5), seek(1, 2, 5), seen(api.TrDone, 4))
}

// TestCopyWithinTransaction: that may not be; nothing is asked, and the transaction goes on.
func TestCopyWithinTransaction(t *testing.T) {
	x := writer(t, send(0, "a"), copyTo(2, 1, 5), copyTo(2, 1, 0), send(0, "b"), commits)
	x.begins()
	x.sends(4, 0, 0, "a")
	x.ticks(2)
	x.asks(produce(0, within(7, 4, 1, "b")))
	x.told(api.Msg{Offset: 1})
	x.asks(end(7, 4, true))
	x.told(api.Msg{Epoch: 6})
	x.ends()
	x.sees(sent(0, 0, 0, "a"), failed(1, api.ErrState), failed(2, api.ErrState), sent(3, 0, 1, "b"), seen(api.TrCommit, 4), seen(api.TrDone, 5))
}

// TestCopyAgain: who begins anew while it reads reads anew; from when it writes on it learns what has become of that.
func TestCopyAgain(t *testing.T) {
	trace := []api.Seen{seek(0, 2, 5), read(0, 2, 5, "a"), read(0, 2, 6, "b")}
	for step := range 7 {
		for _, committed := range []bool{true, false} {
			x := copier(t, copyTo(2, 1, 5), aborts)
			for i, want := range []api.Msg{
				initiate, add(7, 4, 5), add(7, 4, 1), produce(1, within(7, 4, 0, "a", "b")),
				{Kind: api.MTxCommit, Gen: 4, Part: 2, Offset: 8, Pid: 7, Epoch: 4}, end(7, 4, true),
			} {
				if x.asks(want); i == step {
					break
				}
				x.told(api.Msg{Pid: 7, Epoch: 4 + 2*(i/5)})
			}
			x.again()
			what := fmt.Sprint(step, committed)
			switch {
			case step == 0: // no producer, no transaction
				x.asks(join)
				x.sees(trace...)
			case step == 6: // it has ended
				x.ticks(2)
				x.sees(append(trace, seen(api.TrCommit, 0), seen(api.TrAbort, 1), seen(api.TrDone, 2))...)
			case committed:
				x.asks(initiate)
				x.told(api.Msg{Pid: 7, Epoch: 8, Offset: 4, High: 7, Commit: true})
				x.ends()
				x.sees(append(trace, seen(api.TrCommit, 0), seen(api.TrAbort, 1), seen(api.TrDone, 2))...)
			default:
				x.asks(initiate)
				x.told(api.Msg{Pid: 7, Epoch: 8, Offset: 4, High: 7})
				x.sees(append(trace, failed(0, api.ErrTxn))...)
				x.asks(join)
				x.told(team(6, 1))
				x.seeks(2, 5)
				x.reads(2, 5, batches(9, records(5, "a"), marker(6, 7, true)))
				x.reads(2, 7, batches(7))
				x.asks(add(7, 8, 5))
			}
			if t.Failed() {
				t.Fatal(what)
			}
		}
	}
}

// TestCopyOfPassedGeneration: what was read in a generation that has passed mustn't be written; others may have.
func TestCopyOfPassedGeneration(t *testing.T) {
	x := copier(t, copyTo(2, 1, 5))
	x.begins()
	x.copies(4, 1, "a", "b")
	x.asks(api.Msg{Kind: api.MTxCommit, Gen: 4, Part: 2, Offset: 8, Pid: 7, Epoch: 4})
	x.refused(api.ErrGen)
	x.silent()
	x.stands(0, 1, false)
	x.asks(initiate)
	x.told(api.Msg{Pid: 7, Epoch: 8, Offset: 4, High: 7})
	x.asks(join)
	x.told(team(5, 1))
	x.seeks(2, 8)
	x.reads(2, 8, batches(8))
	x.ends()
	x.sees(seek(0, 2, 5), read(0, 2, 5, "a"), read(0, 2, 6, "b"), failed(0, api.ErrTxn), seek(0, 2, 8), seen(api.TrDone, 1))
}

// TestCopyMost: sixteen records are one batch.
func TestCopyMost(t *testing.T) {
	x := writer(t, copyTo(0, 0, 16))
	x.asks(join)
	x.told(team(1, 1))
	x.seeks(0, 0)
	var list []api.Batch
	var values []string
	for i := range 8 {
		values = append(values, fmt.Sprint("x", i), fmt.Sprint("y", i), fmt.Sprint("z", i))
		list = append(list, records(3*i, values[3*i:]...))
	}
	x.reads(0, 0, batches(24, list...))
	x.begins()
	x.copies(4, 0, values[:16]...)
	x.asks(api.Msg{Kind: api.MTxCommit, Gen: 1, Part: 0, Offset: 16, Pid: 7, Epoch: 4})
}
