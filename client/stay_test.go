package client

import (
	"testing"

	"penstock/api"
)

// Who reads for long lets its group's coordinator hear of it.

// waits lets the clock go on so often, while a request is under way, whatever is sent again.
func (x *talk) waits(ticks int) {
	x.t.Helper()
	for range ticks {
		x.tick()
		x.next = nil
	}
}

// TestStay: amid reading it asks to join again, once the coordinator hasn't answered for 20 ticks, and not ahead of that; where the generation is the same it goes on.
func TestStay(t *testing.T) {
	x := writer(t, poll(5), poll(0), send(0, "x"), poll(1))
	x.asks(join)
	x.waits(30)
	x.told(team(4, 1, 0))
	x.asks(offsetOf(0))
	x.waits(30)
	x.told(api.Msg{Offset: 3})
	x.asks(readFrom(0, 3))
	x.waits(19)
	x.told(batches(99, records(3, "a")))
	x.asks(offsetOf(2))
	x.told(api.Msg{Offset: 7})
	x.asks(readFrom(2, 7))
	x.waits(20)
	x.told(batches(99, records(7, "b")))
	x.asks(join)
	x.waits(7)
	x.told(team(4, 1, 0))
	x.reads(0, 4, batches(99, records(4, "c")))
	x.asks(readFrom(2, 8))
	x.waits(50)
	x.told(batches(8))
	// Behind the reading, too.
	x.asks(join)
	x.told(team(4, 1, 0))
	x.asks(readFrom(0, 5))
	x.waits(20)
	x.told(batches(5))
	x.asks(join)
	x.told(team(4, 1, 0))
	x.asks(commitAt(4, 0, 5))
	x.waits(50)
	x.told(api.Msg{})
	x.asks(commitAt(4, 2, 8))
	x.told(api.Msg{})
	x.sees(seek(0, 0, 3), read(0, 0, 3, "a"), seek(0, 2, 7), read(0, 2, 7, "b"), read(0, 0, 4, "c"))
	// What isn't amid reading has nothing to stay for.
	x.ticks(1)
	x.begins()
	x.asks(add(7, 4, 0))
	x.waits(60)
	x.told(api.Msg{})
	x.asks(produce(0, within(7, 4, 0, "x")))
	x.told(api.Msg{})
	x.joins(5)
	x.seeks(2, 8)
}

// TestStayOfPoll: in a new generation it reads on what falls to it still, and nothing else.
func TestStayOfPoll(t *testing.T) {
	x := writer(t, poll(9))
	x.joins(4)
	x.seeks(2, 0)
	x.reads(2, 0, batches(9, records(0, "a")))
	x.seeks(3, 0)
	x.asks(readFrom(3, 0))
	x.waits(20)
	x.told(batches(9, records(0, "b")))
	x.asks(join)
	x.told(team(6, 0, 5, 1, 0)) // 2, and no more 3
	x.reads(2, 1, batches(2, records(1, "c")))
	x.asks(commitAt(6, 2, 2))
	x.told(api.Msg{})
	x.ends()
	x.sees(seek(0, 2, 0), read(0, 2, 0, "a"), seek(0, 3, 0), read(0, 3, 0, "b"), read(0, 2, 1, "c"), seen(api.TrDone, 1))
}

// TestStayOfCopy: in a new generation another one may have copied what it has read, so that it reads anew, if the partition falls to it still.
func TestStayOfCopy(t *testing.T) {
	for _, falls := range []bool{true, false} {
		x := writer(t, copyTo(2, 1, 5))
		x.asks(join)
		x.told(team(4, 1))
		x.seeks(2, 5)
		x.asks(readFrom(2, 5))
		x.waits(20)
		x.told(batches(9, records(5, "a")))
		x.asks(join)
		x.told(team(4, 1))
		x.asks(readFrom(2, 6))
		x.waits(20)
		x.told(batches(9, records(6, "b")))
		x.asks(join)
		x.told(team(5, 0, 1))
		x.asks(join)
		if !falls {
			x.told(team(6, 0))
			x.ends()
			x.sees(seek(0, 2, 5), read(0, 2, 5, "a"), read(0, 2, 6, "b"), seen(api.TrDone, 1))
			continue
		}
		x.told(team(6, 1))
		x.seeks(2, 6)
		x.reads(2, 6, batches(7, records(6, "b")))
		x.begins()
		x.copies(4, 1, "b")
		x.asks(api.Msg{Kind: api.MTxCommit, Gen: 6, Part: 2, Offset: 7, Pid: 7, Epoch: 4})
		x.told(api.Msg{})
		x.asks(end(7, 4, true))
		x.told(api.Msg{Epoch: 6})
		x.ends()
		x.sees(seek(0, 2, 5), read(0, 2, 5, "a"), read(0, 2, 6, "b"), seek(0, 2, 6), read(0, 2, 6, "b"), seen(api.TrCommit, 0), seen(api.TrDone, 1))
	}
}

// TestStayWhileWriting: amid the transaction it stays, too; if the generation has passed the coordinator will say so.
func TestStayWhileWriting(t *testing.T) {
	for _, gen := range []int{4, 5} {
		x := copier(t, copyTo(2, 1, 5))
		x.begins()
		x.asks(add(7, 4, 5))
		x.waits(25)
		x.told(api.Msg{})
		x.asks(join)
		x.told(team(gen, 1))
		x.asks(add(7, 4, 1))
		x.told(api.Msg{})
		x.asks(produce(1, within(7, 4, 0, "a", "b")))
		x.waits(20)
		x.told(api.Msg{Offset: 30})
		x.asks(join)
		x.told(team(gen, 1))
		x.asks(api.Msg{Kind: api.MTxCommit, Gen: 4, Part: 2, Offset: 8, Pid: 7, Epoch: 4})
		if gen == 4 {
			x.told(api.Msg{})
			x.asks(end(7, 4, true))
			continue
		}
		x.refused(api.ErrGen)
		x.asks(initiate)
	}
}

// TestStayNoMore: who begins anew joins anyway.
func TestStayNoMore(t *testing.T) {
	x := writer(t, poll(5))
	x.joins(4)
	x.seeks(2, 0)
	x.asks(readFrom(2, 0))
	x.waits(40)
	x.again()
	x.joins(4)
	x.seeks(2, 0)
	x.reads(2, 0, batches(1, records(0, "a")))
	x.seeks(3, 0)
}
