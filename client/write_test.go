package client

import (
	"fmt"
	"testing"

	"penstock/api"
)

// Writing: OSend, OCommit, OAbort, and how a transaction has ended.

func TestTransactions(t *testing.T) {
	x := writer(t, send(2, "a"), send(2, ""), send(0, "b"), send(2, "a"), commits, send(2, "c"), send(3, "d"), aborts, commits, send(0, "e"), commits)
	x.begins()
	x.sends(4, 2, 10, "a")
	x.asks(produce(2, within(7, 4, 1, "")))
	x.told(api.Msg{Offset: 12})
	x.sends(4, 0, 0, "b")
	x.asks(produce(2, within(7, 4, 2, "a")))
	x.told(api.Msg{Offset: 13})
	x.asks(end(7, 4, true))
	x.told(api.Msg{Epoch: 6})
	// The next one has another epoch, and counts anew.
	x.sends(6, 2, 20, "c")
	x.sends(6, 3, 5, "d")
	x.asks(end(7, 6, false))
	x.told(api.Msg{Epoch: 9}) // whatever is told
	x.ticks(1)
	x.sends(9, 0, 7, "e")
	x.asks(end(7, 9, true))
	x.told(api.Msg{Epoch: 11})
	x.ends()
	x.sees(sent(0, 2, 10, "a"), sent(1, 2, 12, ""), sent(2, 0, 0, "b"), sent(3, 2, 13, "a"), seen(api.TrCommit, 4),
		sent(5, 2, 20, "c"), sent(6, 3, 5, "d"), seen(api.TrAbort, 7), seen(api.TrCommit, 8), sent(9, 0, 7, "e"), seen(api.TrCommit, 10), seen(api.TrDone, 11))
}

// TestBetween: an operation begins by a tick, so that between two of them nothing is under way; who begins anew there has the transaction aborted.
func TestBetween(t *testing.T) {
	x := writer(t, send(2, "a"), commits)
	x.begins()
	x.sends(4, 2, 5, "a")
	x.silent()
	x.stands(1, 0, false)
	x.again()
	x.asks(initiate)
	x.told(api.Msg{Pid: 7, Epoch: 6, Offset: 4, High: 7})
	x.sees(sent(0, 2, 5, "a"), failed(1, api.ErrTxn))
	x.sends(6, 2, 7, "a")
	x.silent()
	x.asks(end(7, 6, true))
	x.told(api.Msg{Epoch: 8})
	x.silent()
	x.stands(2, 1, false)
	x.ticks(1)
	x.sees(sent(0, 2, 5, "a"), failed(1, api.ErrTxn), sent(0, 2, 7, "a"), seen(api.TrCommit, 1), seen(api.TrDone, 2))
}

// TestManyInOnePartition: MAdd stands ahead of the first batch alone, and Seq rises.
func TestManyInOnePartition(t *testing.T) {
	var ops []api.Op
	for i := range api.MaxOps {
		ops = append(ops, send(1, fmt.Sprint(i)))
	}
	x := writer(t, ops...)
	x.begins()
	x.asks(add(7, 4, 1))
	x.told(api.Msg{})
	var want []api.Seen
	for i := range ops {
		x.asks(produce(1, within(7, 4, i, fmt.Sprint(i))))
		x.told(api.Msg{Offset: 2 * i})
		want = append(want, sent(i, 1, 2*i, fmt.Sprint(i)))
	}
	// A transaction that is left open is nobody's business any more.
	x.ends()
	x.sees(append(want, seen(api.TrDone, len(ops)))...)
}

// TestAgainWithoutTransaction: it asks for its producer when it writes next, and not before.
func TestAgainWithoutTransaction(t *testing.T) {
	x := writer(t, commits, send(2, "a"), commits, aborts, send(2, "b"))
	x.again()
	x.ticks(1)
	x.asks(initiate)
	x.again() // it has no producer yet, so it has begun no transaction
	x.begins()
	x.sends(4, 2, 0, "a")
	x.asks(end(7, 4, true))
	x.told(api.Msg{Epoch: 6})
	x.ticks(1)
	x.again()
	x.stands(4, 3, false)
	x.asks(initiate)
	x.told(api.Msg{Pid: 8, Epoch: 10, Offset: 4, High: 7, Commit: true})
	x.asks(add(8, 10, 2))
	x.sees(seen(api.TrCommit, 0), sent(1, 2, 0, "a"), seen(api.TrCommit, 2), seen(api.TrAbort, 3))
}

// amid is a client that has begun a transaction, and stands at its next operation, at a request that isn't answered yet.
func amid(t *testing.T, next api.Op) *talk {
	t.Helper()
	x := writer(t, commits, send(2, "a"), next, send(2, "z"))
	x.ticks(1)
	x.begins()
	x.sends(4, 2, 5, "a")
	return x
}

// TestAgainAmid: how a transaction has ended, of a client that begins anew amid it, is told with the producer.
func TestAgainAmid(t *testing.T) {
	ended := api.Msg{Pid: 7, Epoch: 8, Offset: 4, High: 7}
	with := func(change func(*api.Msg)) api.Msg {
		m := ended
		change(&m)
		return m
	}
	committed := with(func(m *api.Msg) { m.Commit = true })
	for _, c := range []struct {
		what string
		next api.Op
		told api.Msg
		kind int
	}{
		{"committed", commits, committed, api.TrCommit},
		{"aborted", aborts, ended, api.TrAbort},
		{"aborted where it commits", commits, ended, api.TrFailed},
		{"committed where it aborts", aborts, committed, api.TrFailed},
		{"an older epoch", commits, with(func(m *api.Msg) { m.Commit, m.Offset = true, 2 }), api.TrFailed},
		{"none has ended", aborts, with(func(m *api.Msg) { m.Offset = -1 }), api.TrFailed},
		{"another producer", commits, with(func(m *api.Msg) { m.Commit, m.High = true, 6 }), api.TrFailed},
		{"a new producer", commits, with(func(m *api.Msg) { m.Commit, m.Pid, m.Epoch = true, 9, 0 }), api.TrCommit},
		{"a new producer where it aborts", aborts, with(func(m *api.Msg) { m.Pid, m.Epoch = 9, 0 }), api.TrAbort},
		{"a new producer, and aborted", commits, with(func(m *api.Msg) { m.Pid, m.Epoch = 9, 0 }), api.TrFailed},
		{"aborted at an OSend", send(1, "b"), ended, api.TrFailed},
		{"committed at an OSend", send(1, "b"), committed, api.TrFailed},
		{"aborted at an OPoll", poll(3), ended, api.TrFailed},
		{"committed at an OPoll", poll(3), committed, api.TrFailed},
	} {
		t.Run(c.what, func(t *testing.T) {
			x := amid(t, c.next)
			x.again()
			x.tick() // by the next tick
			x.asks(initiate)
			x.told(c.told)
			trace := []api.Seen{seen(api.TrCommit, 0), sent(1, 2, 5, "a")}
			if c.kind == api.TrFailed {
				x.sees(append(trace, failed(2, api.ErrTxn))...)
				// All is done anew, by what was told, and without asking once more.
				x.asks(add(c.told.Pid, c.told.Epoch, 2))
				x.told(api.Msg{})
				x.asks(produce(2, within(c.told.Pid, c.told.Epoch, 0, "a")))
				x.stands(1, 1, false)
				x.told(api.Msg{Offset: 9})
				x.sees(append(trace, failed(2, api.ErrTxn), sent(1, 2, 9, "a"))...)
				return
			}
			x.sees(append(trace, seen(c.kind, 2))...)
			x.asks(add(c.told.Pid, c.told.Epoch, 2))
			x.stands(3, 1, false)
		})
	}
}

// TestAgainAndAgain: it may begin anew while it learns how its transaction has ended.
func TestAgainAndAgain(t *testing.T) {
	x := amid(t, commits)
	for range 5 {
		x.again()
		x.tick()
		x.asks(initiate)
		x.refused(api.ErrBusy)
		x.asks(initiate)
	}
	x.told(api.Msg{Pid: 7, Epoch: 14, Offset: 4, High: 7, Commit: true})
	x.sees(seen(api.TrCommit, 0), sent(1, 2, 5, "a"), seen(api.TrCommit, 2))
	x.asks(add(7, 14, 2))
	x.stands(3, 5, false)
	x.again()
	x.asks(initiate)
	x.told(api.Msg{Pid: 7, Epoch: 16, Offset: 4, High: 7, Commit: true})
	// A transaction of which nothing stands anywhere has come to nothing, too.
	x.sees(seen(api.TrCommit, 0), sent(1, 2, 5, "a"), seen(api.TrCommit, 2), failed(3, api.ErrTxn))
	x.asks(add(7, 16, 2))
}

// TestAgainFarBehind: the transaction has begun at its first OSend, whatever stands between.
func TestAgainFarBehind(t *testing.T) {
	x := writer(t, commits, send(2, "a"), send(3, "b"), copyTo(0, 1, 5), poll(0), send(2, "c"), aborts)
	x.ticks(1)
	x.begins()
	x.sends(4, 2, 5, "a")
	x.sends(4, 3, 6, "b")
	x.ticks(2)
	x.asks(produce(2, within(7, 4, 1, "c")))
	x.again()
	x.asks(initiate)
	x.told(api.Msg{Pid: 7, Epoch: 6, Offset: 4, High: 7})
	x.sends(6, 2, 8, "a")
	x.sends(6, 3, 9, "b")
	x.ticks(2)
	x.asks(produce(2, within(7, 6, 1, "c")))
	x.told(api.Msg{Offset: 10})
	x.asks(end(7, 6, false))
	x.told(api.Msg{Epoch: 8})
	x.ends()
	x.sees(seen(api.TrCommit, 0), sent(1, 2, 5, "a"), sent(2, 3, 6, "b"), failed(3, api.ErrState), failed(5, api.ErrTxn),
		sent(1, 2, 8, "a"), sent(2, 3, 9, "b"), failed(3, api.ErrState), sent(5, 2, 10, "c"), seen(api.TrAbort, 6), seen(api.TrDone, 7))
}

// TestAgainAtTheEnd: a transaction that is open where the program has no more operations is done anew, too, as long as the program hasn't ended.
func TestAgainAtTheEnd(t *testing.T) {
	x := writer(t, send(2, "a"), copyTo(0, 1, 5))
	x.begins()
	x.sends(4, 2, 5, "a")
	x.ticks(1)
	x.stands(2, 0, false)
	x.again()
	x.asks(initiate)
	x.told(api.Msg{Pid: 7, Epoch: 6, Offset: 4, High: 7, Commit: true})
	x.sees(sent(0, 2, 5, "a"), failed(1, api.ErrState), failed(2, api.ErrTxn))
	x.sends(6, 2, 8, "a")
	x.ends()
	x.sees(sent(0, 2, 5, "a"), failed(1, api.ErrState), failed(2, api.ErrTxn), sent(0, 2, 8, "a"), failed(1, api.ErrState), seen(api.TrDone, 2))
}

// TestRefused: by an error that is an answer the client begins anew, by itself.
func TestRefused(t *testing.T) {
	for _, e := range others {
		x := writer(t, send(2, "a"), commits)
		x.asks(initiate)
		x.refused(e)
		x.silent()
		x.stands(0, 1, false)
		x.begins()
		x.asks(add(7, 4, 2))
		x.refused(e)
		x.silent()
		x.stands(0, 2, false)
		x.asks(initiate)
		x.told(api.Msg{Pid: 7, Epoch: 6, Offset: -1})
		x.asks(add(7, 6, 2))
		x.told(api.Msg{})
		x.asks(produce(2, within(7, 6, 0, "a")))
		x.refused(e)
		x.stands(0, 3, false)
		x.asks(initiate)
		x.told(api.Msg{Pid: 7, Epoch: 8, Offset: 6, High: 7})
		x.sends(8, 2, 5, "a")
		x.asks(end(7, 8, true))
		x.refused(e)
		x.stands(1, 4, false)
		x.asks(initiate)
		x.told(api.Msg{Pid: 7, Epoch: 10, Offset: 8, High: 7, Commit: true})
		x.ends()
		x.sees(failed(0, api.ErrTxn), failed(0, api.ErrTxn), sent(0, 2, 5, "a"), seen(api.TrCommit, 1), seen(api.TrDone, 2))
	}
}

// TestSpent: without numbers of producers, or epochs, the program ends.
func TestSpent(t *testing.T) {
	x := writer(t, commits, send(2, "a"), commits)
	x.ticks(1)
	x.asks(initiate)
	x.refused(api.ErrSpent)
	x.silent()
	x.ticks(30)
	x.stands(1, 0, true)
	x.sees(seen(api.TrCommit, 0), failed(1, api.ErrSpent), seen(api.TrDone, 1))

	x = writer(t, send(2, "a"), commits)
	x.asks(initiate)
	x.told(api.Msg{Pid: 7, Epoch: 999})
	x.asks(add(7, 999, 2))
	x.refused(api.ErrSpent)
	x.silent()
	x.again()
	x.ticks(30)
	x.stands(0, 1, true)
	x.sees(failed(0, api.ErrSpent), seen(api.TrDone, 0))

	x = amid(t, commits)
	x.again()
	x.asks(initiate)
	x.refused(api.ErrSpent)
	x.ticks(30)
	x.sees(seen(api.TrCommit, 0), sent(1, 2, 5, "a"), failed(2, api.ErrSpent), seen(api.TrDone, 2))
}
