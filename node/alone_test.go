package node

import (
	"fmt"
	"strings"
	"testing"

	"penstock/api"
	"penstock/disk"
	"penstock/group"
	"penstock/image"
	"penstock/txn"
)

// TestAlone: within 20 ticks, whatever the draws, at the first start and at later ones.
func TestAlone(t *testing.T) {
	for parts := 1; parts <= 4; parts++ {
		for draw := range uint64(9) {
			d := disk.New()
			for range 3 {
				n := openOn(t, 0, one(1, parts), d)
				for range 20 {
					n.Tick(draw)
				}
				for k := range parts + 2 {
					wantLeads(t, n, k, true)
				}
				// The numbers of producers are at hand from the moment on at which it leads.
				if e := asks(t, n, api.Msg{Kind: api.MInit, Tx: 2, Inc: 1}).E; e != api.OK {
					t.Errorf("MInit: %d", e)
				}
			}
		}
	}
}

// TestNumbersAtHandAtOnce: as soon as it leads, and whenever some are used up.
func TestNumbersAtHandAtOnce(t *testing.T) {
	n := openOn(t, 0, one(1, 1), disk.New())
	for range 20 {
		n.Tick(0)
		if _, _, leads := n.Part(1); leads {
			break
		}
	}
	for name := range api.MaxTxs {
		wantAnswer(t, "MInit", n, api.Msg{Kind: api.MInit, Tx: name, Inc: 1}, api.Msg{Pid: uint64(name + 1), Offset: -1})
	}
	// Epochs up to 996 are given out; then the producer is another one, of this block or the next one.
	inc := 1
	for pid := uint64(9); pid < 33; pid++ {
		for range 500 {
			inc++
			m := asks(t, n, api.Msg{Kind: api.MInit, Tx: 5, Inc: inc})
			if m.E != api.OK {
				t.Fatalf("MInit %d: %+v", inc, m)
			}
			if m.Pid == pid {
				break
			}
		}
		if x := n.txns.laid.Tx(5); x.Pid != pid || x.Epoch != 0 {
			t.Fatalf("the next producer is %d, %d, want %d", x.Pid, x.Epoch, pid)
		}
	}
}

// TestStartsWasteNoNumbers: what of a block isn't given out yet is given out behind a new start, and nothing twice.
func TestStartsWasteNoNumbers(t *testing.T) {
	d := disk.New()
	for name := range api.MaxTxs {
		n := alone(t, one(1, 1), d)
		wantAnswer(t, "MInit", n, api.Msg{Kind: api.MInit, Tx: name, Inc: 1}, api.Msg{Pid: uint64(name + 1), Offset: -1})
		if next, _ := imageOf(t, n).Pids(); next != 11 {
			t.Errorf("the numbers up to %d are given out", next)
		}
	}
}

// TestSpent: when there are no numbers any more that is told, and nobody waits for one.
func TestSpent(t *testing.T) {
	n := alone(t, one(1, 1), disk.New())
	for block := 1; block < 991; block += 10 {
		n.Handle(api.Msg{Kind: api.MCmd, Cmd: api.Cmd{Kind: api.CBlock, Node: 0, Version: block}})
	}
	if next, left := imageOf(t, n).Pids(); next != 1001 || left != 0 {
		t.Fatalf("Pids = %d, %d", next, left)
	}
	for i := range uint64(10) {
		n.txns.used[991+i] = struct{}{}
	}
	wantErrno(t, "MInit", n, api.Msg{Kind: api.MInit, Tx: 0, Inc: 1}, api.ErrSpent)
	// A name that has its producer needs none.
	n.txns.laid.Apply(api.TxRec{Kind: api.TInit, Tx: 1, Inc: 1, Pid: 1})
	wantAnswer(t, "MInit", n, api.Msg{Kind: api.MInit, Tx: 1, Inc: 1}, api.Msg{Pid: 1, Offset: -1})
	wantAnswer(t, "MInit", n, api.Msg{Kind: api.MInit, Tx: 1, Inc: 2}, api.Msg{Pid: 1, Epoch: 2, Offset: -1})
	asks(t, n, api.Msg{Kind: api.MAdd, Tx: 1, Pid: 1, Epoch: 2, Offset: 0})
	wantErrno(t, "MInit amid a transaction", n, api.Msg{Kind: api.MInit, Tx: 1, Inc: 3}, api.ErrBusy)
	n.txns.laid.Apply(api.TxRec{Kind: api.TInit, Tx: 1, Inc: 2, Pid: 1, Epoch: 998})
	wantErrno(t, "MInit", n, api.Msg{Kind: api.MInit, Tx: 1, Inc: 3}, api.ErrSpent)
	wantErrno(t, "MInit", n, api.Msg{Kind: api.MInit, Tx: 1, Inc: 1}, api.ErrFenced)
}

// TestDoubledBlocks: who asks twice for one block isn't given two.
func TestDoubledBlocks(t *testing.T) {
	n := alone(t, one(1, 1), disk.New())
	for range 3 {
		n.Handle(api.Msg{Kind: api.MCmd, Cmd: api.Cmd{Kind: api.CBlock, Node: 0}})
	}
	if next, _ := imageOf(t, n).Pids(); next != 11 {
		t.Errorf("the numbers up to %d are given out", next)
	}
}

func TestProduceAndRead(t *testing.T) {
	n := alone(t, one(1, 2), disk.New())
	wantAnswer(t, "MProduce", n, api.Msg{Kind: api.MProduce, Part: 1, Batch: records("a", "b")}, api.Msg{Offset: 0})
	// Where it stands, and under which epoch, the leader says.
	wantAnswer(t, "MProduce", n, api.Msg{Kind: api.MProduce, Part: 1, Batch: at(9, 9, records("c"))}, api.Msg{Offset: 2})
	b := within(5, 0, 0, "x")
	wantAnswer(t, "MProduce", n, api.Msg{Kind: api.MProduce, Part: 1, Batch: b}, api.Msg{Offset: 3})
	wantAnswer(t, "MProduce again", n, api.Msg{Kind: api.MProduce, Part: 1, Batch: b}, api.Msg{Offset: 3})
	wantErrno(t, "another Seq", n, api.Msg{Kind: api.MProduce, Part: 1, Batch: within(5, 0, 5, "x")}, api.ErrSeq)
	wantErrno(t, "a control batch", n, api.Msg{Kind: api.MProduce, Part: 1, Batch: marker(5, 1, true)}, api.ErrForm)
	wantErrno(t, "no values", n, api.Msg{Kind: api.MProduce, Part: 1}, api.ErrForm)
	wantErrno(t, "a long value", n, api.Msg{Kind: api.MProduce, Part: 1, Batch: records(strings.Repeat("v", 65))}, api.ErrLong)
	wantErrno(t, "Seq below 0", n, api.Msg{Kind: api.MProduce, Part: 1, Batch: within(5, 0, -1, "x")}, api.ErrArg)

	first := []api.Batch{at(0, 1, records("a", "b")), at(2, 1, records("c"))}
	wantAnswer(t, "MRead", n, api.Msg{Kind: api.MRead, Part: 1}, api.Msg{Batches: first, High: 3})
	wantAnswer(t, "MRead", n, api.Msg{Kind: api.MRead, Part: 1, Offset: 1}, api.Msg{Batches: first, High: 3})
	wantAnswer(t, "MRead", n, api.Msg{Kind: api.MRead, Part: 1, Offset: 2}, api.Msg{Batches: first[1:], High: 3})
	wantAnswer(t, "MRead", n, api.Msg{Kind: api.MRead, Part: 1, Offset: 3}, api.Msg{High: 3})
	wantAnswer(t, "MRead", n, api.Msg{Kind: api.MRead, Part: 1, Offset: -4}, api.Msg{Batches: first, High: 3})
	wantAnswer(t, "MRead", n, api.Msg{Kind: api.MRead, Part: 0}, api.Msg{})
}

// TestReadEight: at most eight batches at once.
func TestReadEight(t *testing.T) {
	n := alone(t, one(1, 1), disk.New())
	for i := range 11 {
		asks(t, n, api.Msg{Kind: api.MProduce, Batch: records(fmt.Sprint(i))})
	}
	m := asks(t, n, api.Msg{Kind: api.MRead, Offset: 1})
	if len(m.Batches) != 8 || m.Batches[0].Base != 1 || m.High != 11 {
		t.Errorf("MRead = %+v", m)
	}
}

// TestWrongPartitions: which there isn't.
func TestWrongPartitions(t *testing.T) {
	n := alone(t, one(1, 2), disk.New())
	for _, k := range []int{-1, 4, 5, 1 << 40} {
		wantErrno(t, "MProduce", n, api.Msg{Kind: api.MProduce, Part: k, Batch: records("a")}, api.ErrArg)
		wantErrno(t, "MProduce of a control batch", n, api.Msg{Kind: api.MProduce, Part: k, Batch: marker(1, 1, true)}, api.ErrArg)
		wantErrno(t, "MRead", n, api.Msg{Kind: api.MRead, Part: k}, api.ErrArg)
	}
	asks(t, n, api.Msg{Kind: api.MInit, Tx: 0, Inc: 1})
	for _, k := range []int{-1, 4, 5, 1 << 40} {
		wantErrno(t, "MAdd", n, api.Msg{Kind: api.MAdd, Pid: 1, Offset: k}, api.ErrArg)
	}
	asks(t, n, api.Msg{Kind: api.MJoin})
	for _, k := range []int{-1, 4, 5, 1 << 40} {
		wantErrno(t, "MCommit", n, api.Msg{Kind: api.MCommit, Part: k, Gen: 1, Offset: 1}, api.ErrArg)
		wantErrno(t, "MTxCommit", n, api.Msg{Kind: api.MTxCommit, Part: k, Gen: 1, Offset: 1, Pid: 1}, api.ErrArg)
	}
}

// TestWrongNames: and groups, that there aren't.
func TestWrongNames(t *testing.T) {
	n := alone(t, one(1, 1), disk.New())
	for _, x := range []int{-1, 8, 1 << 40} {
		for _, kind := range []int{api.MInit, api.MAdd, api.MEnd} {
			wantErrno(t, "a name", n, api.Msg{Kind: kind, Tx: x, Pid: 1}, api.ErrArg)
		}
		for _, kind := range []int{api.MJoin, api.MOffset, api.MCommit, api.MTxCommit} {
			wantErrno(t, "a group", n, api.Msg{Kind: kind, Group: x, Pid: 1}, api.ErrArg)
		}
	}
	wantErrno(t, "a member", n, api.Msg{Kind: api.MJoin, Member: -1}, api.ErrArg)
}

// TestOtherKinds: what is no request is answered by nothing.
func TestOtherKinds(t *testing.T) {
	n := alone(t, one(1, 1), disk.New())
	before := n.Image()
	for _, kind := range []int{-1, 0, api.MRaft, api.MFetch, api.MFetched, api.MCmd, api.MReply, 16, 99} {
		if out := n.Handle(api.Msg{Kind: kind, From: caller}); len(out) > 0 {
			t.Errorf("kind %d: %+v", kind, out)
		}
	}
	same(t, "Image", n.Image(), before)
}

// TestTransaction goes through one, and holds the logs against what the chapter says stands there.
func TestTransaction(t *testing.T) {
	n := alone(t, one(1, 2), disk.New())
	wantAnswer(t, "MInit", n, api.Msg{Kind: api.MInit, Tx: 3, Inc: 1}, api.Msg{Pid: 1, Offset: -1})
	wantAnswer(t, "MInit again", n, api.Msg{Kind: api.MInit, Tx: 3, Inc: 1}, api.Msg{Pid: 1, Offset: -1})
	wantErrno(t, "MEnd without a transaction", n, api.Msg{Kind: api.MEnd, Tx: 3, Pid: 1, Commit: true}, api.ErrTxn)
	wantErrno(t, "MAdd", n, api.Msg{Kind: api.MAdd, Tx: 3, Pid: 1, Offset: 1}, api.OK)
	wantErrno(t, "MAdd again", n, api.Msg{Kind: api.MAdd, Tx: 3, Pid: 1, Offset: 1}, api.OK)
	wantErrno(t, "MAdd of another one", n, api.Msg{Kind: api.MAdd, Tx: 3, Pid: 1, Offset: 0}, api.OK)
	wantErrno(t, "MAdd of another producer", n, api.Msg{Kind: api.MAdd, Tx: 3, Pid: 2, Offset: 1}, api.ErrFenced)
	wantErrno(t, "MAdd of another epoch", n, api.Msg{Kind: api.MAdd, Tx: 3, Pid: 1, Epoch: 2, Offset: 1}, api.ErrFenced)
	wantAnswer(t, "MProduce", n, api.Msg{Kind: api.MProduce, Part: 1, Batch: within(1, 0, 0, "a")}, api.Msg{Offset: 0})
	wantAnswer(t, "MRead of what is open", n, api.Msg{Kind: api.MRead, Part: 1}, api.Msg{})
	end := api.Msg{Kind: api.MEnd, Tx: 3, Pid: 1, Commit: true}
	wantErrno(t, "MEnd", n, end, api.ErrBusy)
	wantEnds(t, n, end, 2)
	wantAnswer(t, "MEnd again", n, end, api.Msg{Epoch: 2})
	wantErrno(t, "MEnd otherwise", n, api.Msg{Kind: api.MEnd, Tx: 3, Pid: 1}, api.ErrTxn)
	wantErrno(t, "MEnd of another producer", n, api.Msg{Kind: api.MEnd, Tx: 3, Pid: 2, Commit: true}, api.ErrFenced)
	wantErrno(t, "MAdd that is late", n, api.Msg{Kind: api.MAdd, Tx: 3, Pid: 1, Offset: 1}, api.ErrFenced)
	wantErrno(t, "MProduce that is late", n, api.Msg{Kind: api.MProduce, Part: 1, Batch: within(1, 0, 1, "b")}, api.ErrFenced)
	wantErrno(t, "MProduce where nothing was written", n, api.Msg{Kind: api.MProduce, Part: 0, Batch: within(1, 0, 0, "b")}, api.ErrFenced)
	whole := []api.Batch{at(0, 1, within(1, 0, 0, "a")), at(1, 1, marker(1, 1, true))}
	wantAnswer(t, "MRead", n, api.Msg{Kind: api.MRead, Part: 1}, api.Msg{Batches: whole, High: 2})
	wantAnswer(t, "MRead", n, api.Msg{Kind: api.MRead, Part: 0}, api.Msg{Batches: []api.Batch{at(0, 1, marker(1, 1, true))}, High: 1})
	wantAnswer(t, "MInit of a new start", n, api.Msg{Kind: api.MInit, Tx: 3, Inc: 2}, api.Msg{Pid: 1, Epoch: 4, Offset: 0, High: 1, Commit: true})
	wantErrno(t, "MInit of an old one", n, api.Msg{Kind: api.MInit, Tx: 3, Inc: 1}, api.ErrFenced)
	wantTxLog(t, n, []api.TxRec{
		{Kind: api.TInit, Tx: 3, Inc: 1, Pid: 1},
		{Kind: api.TAdd, Tx: 3, Parts: []int{1}},
		{Kind: api.TAdd, Tx: 3, Parts: []int{0}},
		{Kind: api.TPrep, Tx: 3, Commit: true},
		{Kind: api.TDone, Tx: 3},
		{Kind: api.TInit, Tx: 3, Inc: 2, Pid: 1, Epoch: 4},
	})
}

// wantEnds: an MEnd that is busy is OK behind 12 ticks at most, with that epoch next.
func wantEnds(t *testing.T, n *Node, m api.Msg, epoch int) {
	t.Helper()
	for range 12 {
		ticks(t, n, 1)
		if asks(t, n, m).E != api.ErrBusy {
			break
		}
	}
	wantAnswer(t, "MEnd behind the markers", n, m, api.Msg{Epoch: epoch})
}

// wantTxLog: these are the records that the transactions' log has.
func wantTxLog(t *testing.T, n *Node, want []api.TxRec) {
	t.Helper()
	log, _, _ := n.Part(n.txPart())
	var got []api.TxRec
	for _, b := range log {
		for _, v := range b.Values {
			r, e := txn.Decode(v)
			if e != api.OK {
				t.Fatalf("the transactions' log has %+v", b)
			}
			got = append(got, r)
		}
	}
	same(t, "the transactions' log", got, want)
}

// TestAbortedTransaction: its records are there, and told as aborted.
func TestAbortedTransaction(t *testing.T) {
	n := alone(t, one(1, 1), disk.New())
	asks(t, n, api.Msg{Kind: api.MInit, Tx: 0, Inc: 1})
	asks(t, n, api.Msg{Kind: api.MAdd, Pid: 1, Offset: 0})
	asks(t, n, api.Msg{Kind: api.MProduce, Batch: within(1, 0, 0, "a", "b")})
	end := api.Msg{Kind: api.MEnd, Pid: 1}
	wantErrno(t, "MEnd", n, end, api.ErrBusy)
	wantEnds(t, n, end, 2)
	wantErrno(t, "MEnd otherwise", n, api.Msg{Kind: api.MEnd, Pid: 1, Commit: true}, api.ErrTxn)
	wantAnswer(t, "MRead", n, api.Msg{Kind: api.MRead}, api.Msg{
		Batches: []api.Batch{at(0, 1, within(1, 0, 0, "a", "b")), at(2, 1, marker(1, 1, false))},
		Aborts:  []api.Abort{{Pid: 1, First: 0, Last: 2}},
		High:    3,
	})
	// The next one has a producer's epoch of its own.
	wantErrno(t, "MAdd", n, api.Msg{Kind: api.MAdd, Pid: 1, Epoch: 2, Offset: 0}, api.OK)
	wantAnswer(t, "MProduce", n, api.Msg{Kind: api.MProduce, Batch: within(1, 2, 0, "c")}, api.Msg{Offset: 3})
}

// TestBegunAnew: who begins anew amid a transaction has that aborted, is busy till then, and learns how it ended.
func TestBegunAnew(t *testing.T) {
	n := alone(t, one(1, 1), disk.New())
	asks(t, n, api.Msg{Kind: api.MInit, Tx: 0, Inc: 1})
	asks(t, n, api.Msg{Kind: api.MAdd, Pid: 1, Offset: 0})
	asks(t, n, api.Msg{Kind: api.MProduce, Batch: within(1, 0, 0, "a")})
	again := api.Msg{Kind: api.MInit, Tx: 0, Inc: 2}
	wantErrno(t, "MInit amid it", n, again, api.ErrBusy)
	ticks(t, n, 12)
	wantAnswer(t, "MInit behind it", n, again, api.Msg{Pid: 1, Epoch: 4, Offset: 0, High: 1})
	wantErrno(t, "MEnd of the older start", n, api.Msg{Kind: api.MEnd, Pid: 1, Commit: true}, api.ErrTxn)
	m := asks(t, n, api.Msg{Kind: api.MRead})
	if len(m.Aborts) != 1 || m.High != 2 {
		t.Errorf("MRead = %+v", m)
	}
}

// program is one of so many OPolls, and other operations.
func program(polls, others int) api.Program {
	var p api.Program
	for i := range polls + others {
		p.Ops = append(p.Ops, api.Op{Kind: api.OCommit})
		if i < polls {
			p.Ops[i].Kind = api.OPoll
		}
	}
	return p
}

// TestOpenForLong: a transaction is aborted behind 100 ticks, and 10 more for each operation of the slowest program, 100 for each OPoll, and not ahead of that.
func TestOpenForLong(t *testing.T) {
	for _, x := range []struct {
		programs []api.Program
		least    int
	}{
		{nil, 100},
		{[]api.Program{program(0, 0)}, 100},
		{[]api.Program{program(0, 1), program(0, 3), program(0, 0)}, 130},
		{[]api.Program{program(0, 64)}, 740},
		{[]api.Program{program(1, 2), program(0, 4)}, 220},
		{[]api.Program{program(2, 0), program(0, 30)}, 400},
		{[]api.Program{program(0, 1), program(63, 1)}, 6410},
	} {
		c := one(1, 1)
		c.Clients = x.programs
		n := alone(t, c, disk.New())
		asks(t, n, api.Msg{Kind: api.MInit, Tx: 0, Inc: 1})
		ticks(t, n, 200)
		asks(t, n, api.Msg{Kind: api.MAdd, Pid: 1, Offset: 0})
		for i := range x.least {
			ticks(t, n, 1)
			// What is asked meanwhile doesn't make it younger, not even where it adds a partition.
			wantErrno(t, "MAdd", n, api.Msg{Kind: api.MAdd, Pid: 1, Offset: min(i/50, 2)}, api.OK)
		}
		wantAnswer(t, "MProduce in time", n, api.Msg{Kind: api.MProduce, Batch: within(1, 0, 0, "a")}, api.Msg{Offset: 0})
		ticks(t, n, 20)
		wantErrno(t, "MProduce", n, api.Msg{Kind: api.MProduce, Batch: within(1, 0, 1, "a")}, api.ErrFenced)
		wantErrno(t, "MEnd", n, api.Msg{Kind: api.MEnd, Pid: 1, Commit: true}, api.ErrTxn)
		wantAnswer(t, "MInit", n, api.Msg{Kind: api.MInit, Tx: 0, Inc: 2}, api.Msg{Pid: 1, Epoch: 4, Offset: 0, High: 1})
	}
}

// TestMarkedAlready: where a producer has gone on to a greater epoch there is nothing to end any more, and its transaction ends all the same.
func TestMarkedAlready(t *testing.T) {
	n := alone(t, one(1, 1), disk.New())
	asks(t, n, api.Msg{Kind: api.MInit, Tx: 0, Inc: 1})
	asks(t, n, api.Msg{Kind: api.MAdd, Pid: 1, Offset: 0})
	asks(t, n, api.Msg{Kind: api.MProduce, Batch: within(1, 4, 0, "of a later one")})
	end := api.Msg{Kind: api.MEnd, Pid: 1, Commit: true}
	wantErrno(t, "MEnd", n, end, api.ErrBusy)
	wantEnds(t, n, end, 2)
	if log, _, _ := n.Part(0); len(log) != 1 {
		t.Errorf("the log has %+v", log)
	}
}

// TestFullDisk: a batch for which there is no room is refused; a node that can't keep what the quorum asks of it does nothing any more.
func TestFullDisk(t *testing.T) {
	d := disk.New()
	n := alone(t, one(1, 1), d)
	room := api.MaxDisk
	for _, name := range d.Names() {
		size, _, _ := d.Size(name)
		room -= size
	}
	if e := d.Append("full", make([]byte, room-5)); e != api.OK {
		t.Fatal(e)
	}
	wantErrno(t, "MProduce", n, api.Msg{Kind: api.MProduce, Batch: records("a")}, api.ErrFull)
	wantErrno(t, "MInit", n, api.Msg{Kind: api.MInit, Inc: 1}, api.ErrFull)
	wantErrno(t, "MJoin", n, api.Msg{Kind: api.MJoin}, api.ErrFull)
	if n.Broken() {
		t.Error("broken by that")
	}
	before := n.Image()
	n.Handle(api.Msg{Kind: api.MCmd, Cmd: api.Cmd{Kind: api.CMove, List: []int{0}}})
	if out := n.Handle(api.Msg{Kind: api.MRead, From: caller}); len(out) > 0 || !n.Broken() {
		t.Errorf("it goes on: %+v", out)
	}
	same(t, "Image", n.Image(), before)
}

// TestAgeIsOfOneTransaction: the next one isn't as old as the one ahead of it.
func TestAgeIsOfOneTransaction(t *testing.T) {
	n := alone(t, one(1, 1), disk.New())
	asks(t, n, api.Msg{Kind: api.MInit, Tx: 0, Inc: 1})
	for i := range 5 {
		epoch := 2 * i
		wantErrno(t, "MAdd", n, api.Msg{Kind: api.MAdd, Pid: 1, Epoch: epoch, Offset: 0}, api.OK)
		ticks(t, n, 60)
		end := api.Msg{Kind: api.MEnd, Pid: 1, Epoch: epoch, Commit: true}
		wantErrno(t, "MEnd", n, end, api.ErrBusy)
		// All of it goes on within the node, so not even a tick comes between.
		if i%2 == 0 {
			wantEnds(t, n, end, epoch+2)
		}
	}
}

func TestGroup(t *testing.T) {
	n := alone(t, one(1, 2), disk.New())
	join := func(member int) api.Msg { return api.Msg{Kind: api.MJoin, Group: 1, Member: member} }
	wantAnswer(t, "MJoin", n, join(2), api.Msg{Gen: 1, Members: []int{2}})
	wantAnswer(t, "MJoin again", n, join(2), api.Msg{Gen: 1, Members: []int{2}})
	wantAnswer(t, "MJoin", n, join(0), api.Msg{Gen: 2, Members: []int{0, 2}})
	offset := api.Msg{Kind: api.MOffset, Group: 1, Part: 1}
	wantAnswer(t, "MOffset", n, offset, api.Msg{})
	commit := api.Msg{Kind: api.MCommit, Group: 1, Member: 2, Gen: 2, Part: 1, Offset: 5}
	wantErrno(t, "MCommit", n, commit, api.OK)
	wantAnswer(t, "MOffset", n, offset, api.Msg{Offset: 5})
	other := commit
	other.Member = 0
	wantErrno(t, "MCommit of one to whom it doesn't fall", n, other, api.ErrGen)
	other = commit
	other.Gen = 1
	wantErrno(t, "MCommit of an older generation", n, other, api.ErrGen)
	other = commit
	other.Offset = -1
	wantErrno(t, "MCommit below 0", n, other, api.ErrArg)
	other.Offset = 3
	wantErrno(t, "MCommit that is late", n, other, api.OK)
	wantAnswer(t, "MOffset", n, offset, api.Msg{Offset: 5})
	wantAnswer(t, "MOffset of another group", n, api.Msg{Kind: api.MOffset, Group: 2, Part: 1}, api.Msg{})
	for member := 10; member < 16; member++ {
		asks(t, n, join(member))
	}
	wantErrno(t, "the ninth member", n, join(20), api.ErrFull)
}

// TestLongRecord: members with great numbers, of whom a value can't tell.
func TestLongRecord(t *testing.T) {
	n := alone(t, one(1, 1), disk.New())
	for i := range 6 {
		asks(t, n, api.Msg{Kind: api.MJoin, Member: 1<<60 + i})
	}
	wantErrno(t, "one member more", n, api.Msg{Kind: api.MJoin, Member: 1<<60 + 6}, api.ErrLong)
	m := asks(t, n, api.Msg{Kind: api.MJoin, Member: 1 << 60})
	if m.Gen != 6 || len(m.Members) != 6 {
		t.Errorf("MJoin = %+v", m)
	}
}

// TestTxCommit: an offset that is committed by a transaction is known when that has ended.
func TestTxCommit(t *testing.T) {
	for _, commit := range []bool{true, false} {
		n := alone(t, one(1, 1), disk.New())
		asks(t, n, api.Msg{Kind: api.MJoin, Member: 4})
		asks(t, n, api.Msg{Kind: api.MInit, Tx: 0, Inc: 1})
		asks(t, n, api.Msg{Kind: api.MAdd, Pid: 1, Offset: 2})
		m := api.Msg{Kind: api.MTxCommit, Member: 4, Gen: 1, Offset: 6, Pid: 1}
		wantErrno(t, "MTxCommit", n, m, api.OK)
		wantErrno(t, "MTxCommit again", n, m, api.OK)
		offset := api.Msg{Kind: api.MOffset, Member: 4}
		wantErrno(t, "MOffset amid it", n, offset, api.ErrBusy)
		seq := m
		seq.Batch.Seq = 3
		wantErrno(t, "MTxCommit of another Seq", n, seq, api.ErrSeq)
		old := m
		old.Gen = 0
		wantErrno(t, "MTxCommit of another generation", n, old, api.ErrGen)
		none := m
		none.Pid = 0
		wantErrno(t, "MTxCommit without a producer", n, none, api.ErrForm)
		end := api.Msg{Kind: api.MEnd, Pid: 1, Commit: commit}
		wantErrno(t, "MEnd", n, end, api.ErrBusy)
		wantEnds(t, n, end, 2)
		if commit {
			wantAnswer(t, "MOffset", n, offset, api.Msg{Offset: 6})
		} else {
			wantAnswer(t, "MOffset", n, offset, api.Msg{})
		}
		wantErrno(t, "MTxCommit that is late", n, m, api.ErrFenced)
		log, _, _ := n.Part(2)
		text, _ := group.Encode(api.GrRec{Kind: api.GOff, Offset: 6})
		same(t, "the groups' log", log[1:], []api.Batch{at(1, 1, within(1, 0, 0, string(text))), at(2, 1, marker(1, 1, commit))})
	}
}

// TestMembersAway: who asks nothing for long is let go, but not ahead of 40 ticks; any request counts.
func TestMembersAway(t *testing.T) {
	for _, kind := range []int{api.MJoin, api.MOffset, api.MCommit, api.MTxCommit} {
		n := alone(t, one(1, 1), disk.New())
		asks(t, n, api.Msg{Kind: api.MJoin, Member: 1})
		asks(t, n, api.Msg{Kind: api.MJoin, Member: 2})
		for range 6 {
			ticks(t, n, 40)
			asks(t, n, api.Msg{Kind: kind, Member: 2, Gen: 9, Pid: 1})
			// By its own request the group is seen, and who asks isn't of it.
			if gen, _ := n.groups.state.Team(0); gen > 3 {
				t.Errorf("kind %d: the generation is %d", kind, gen)
			}
		}
		wantAnswer(t, "MJoin", n, api.Msg{Kind: api.MJoin, Member: 2}, api.Msg{Gen: 3, Members: []int{2}})
		ticks(t, n, 100)
		wantAnswer(t, "MJoin of one that is alone", n, api.Msg{Kind: api.MJoin, Member: 7}, api.Msg{Gen: 5, Members: []int{7}})
	}
}

// TestMembersStay: up to 40 ticks.
func TestMembersStay(t *testing.T) {
	n := alone(t, one(1, 1), disk.New())
	asks(t, n, api.Msg{Kind: api.MJoin, Member: 1})
	ticks(t, n, 40)
	wantAnswer(t, "MJoin", n, api.Msg{Kind: api.MJoin, Member: 2}, api.Msg{Gen: 2, Members: []int{1, 2}})
}

// TestStrangeRecords: what clients lay into the coordinators' logs, and is no record, is passed over.
func TestStrangeRecords(t *testing.T) {
	d := disk.New()
	n := alone(t, one(1, 1), d)
	rec, _ := txn.Encode(api.TxRec{Kind: api.TInit, Tx: 6, Pid: 9})
	for k := 1; k <= 2; k++ {
		wantAnswer(t, "MProduce", n, api.Msg{Kind: api.MProduce, Part: k, Batch: records("x", "")}, api.Msg{Offset: 0})
		wantAnswer(t, "MProduce", n, api.Msg{Kind: api.MProduce, Part: k, Batch: within(9, 0, 0, string(rec))}, api.Msg{Offset: 2})
	}
	for range 2 {
		wantAnswer(t, "MInit", n, api.Msg{Kind: api.MInit, Tx: 6, Inc: 1}, api.Msg{Pid: 1, Offset: -1})
		wantAnswer(t, "MJoin", n, api.Msg{Kind: api.MJoin, Member: 3}, api.Msg{Gen: 1, Members: []int{3}})
		n = alone(t, one(1, 1), d)
	}
}

// TestForgedMessages: nothing that is handed in lets a node panic, or a node alone do otherwise than before.
func TestForgedMessages(t *testing.T) {
	n := alone(t, one(1, 1), disk.New())
	m, _ := image.New(2, 3, 1)
	other, _ := m.Bytes()
	for _, from := range []int{-1, 0, 1, 5} {
		for kind := range 9 {
			for _, index := range []int{-1, 0, 1, 1 << 62} {
				for _, snap := range [][]byte{nil, []byte("x"), other} {
					r := api.RMsg{Kind: kind, From: from, To: 0, Term: 9, Index: index, Commit: index, Snap: snap, Entries: []api.Entry{{Term: 9, Data: []byte("x")}}}
					n.Handle(api.Msg{Kind: api.MRaft, From: from, Raft: r})
				}
			}
		}
		for _, k := range []int{-1, 0, 3, 1 << 62} {
			n.Handle(api.Msg{Kind: api.MFetch, From: from, Fetch: api.FetchReq{Part: k, Epoch: 1, Node: from}})
			n.Handle(api.Msg{Kind: api.MFetched, From: from, Fetched: api.FetchReply{Part: k, Epoch: 1, Batches: []api.Batch{records("x")}}})
			n.Handle(api.Msg{Kind: api.MMarker, From: from, Part: k, Batch: records("x")})
			n.Handle(api.Msg{Kind: api.MReply, From: from, Part: k, Tx: k})
			n.Handle(api.Msg{Kind: api.MCmd, From: from, Cmd: api.Cmd{Kind: k, Node: k, Part: k, List: []int{k}}})
		}
	}
	wantAnswer(t, "MProduce", n, api.Msg{Kind: api.MProduce, Batch: records("a")}, api.Msg{Offset: 0})
	wantAnswer(t, "MInit", n, api.Msg{Kind: api.MInit, Inc: 1}, api.Msg{Pid: 1, Offset: -1})
}
