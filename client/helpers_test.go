package client

import (
	"fmt"
	"testing"

	"penstock/api"
)

// talk is a client, and what a test tells it.
type talk struct {
	t     *testing.T
	c     *Client
	w     *watch
	under api.Msg   // the request under way, as it was sent last
	next  []api.Msg // what it has sent since
}

// member is a client, of a group, with a program: the second of two, of three nodes and four partitions.
func member(t *testing.T, group int, ops ...api.Op) *talk {
	t.Helper()
	c := newClient(t, 1, api.Config{Nodes: 3, Parts: 4, Copies: 2, Clients: []api.Program{{}, {Group: group, Ops: ops}}})
	return &talk{t: t, c: c, w: newWatch(t, c)}
}

// writer is a client of the group 0.
func writer(t *testing.T, ops ...api.Op) *talk {
	t.Helper()
	return member(t, 0, ops...)
}

func send(part int, value string) api.Op {
	return api.Op{Kind: api.OSend, Part: part, Value: value}
}

func poll(count int) api.Op {
	return api.Op{Kind: api.OPoll, Count: count}
}

func copyTo(from, to, count int) api.Op {
	return api.Op{Kind: api.OCopy, Part: from, To: to, Count: count}
}

var (
	commits = api.Op{Kind: api.OCommit}
	aborts  = api.Op{Kind: api.OAbort}
)

// tick lets the clock go on.
func (x *talk) tick() {
	x.t.Helper()
	x.next = append(x.next, x.w.tick()...)
}

// ticks lets it go on so often; nothing may be sent.
func (x *talk) ticks(count int) {
	x.t.Helper()
	for range count {
		x.tick()
		x.silent()
	}
}

// silent: it has sent nothing.
func (x *talk) silent() {
	x.t.Helper()
	if len(x.next) > 0 {
		x.t.Fatalf("it sends %+v", x.next)
	}
}

// asks: by the next tick it asks just that, beside what each request has.
func (x *talk) asks(want api.Msg) {
	x.t.Helper()
	if len(x.next) == 0 {
		x.tick()
	}
	if len(x.next) != 1 {
		_, inc, _ := x.c.State()
		x.t.Fatalf("it sends %+v, want %+v; begun anew %d times, %+v", x.next, want, inc, x.c.Trace())
	}
	x.under, x.next = x.next[0], nil
	_, inc, _ := x.c.State()
	want.From, want.Tx, want.Member, want.Group, want.Inc = 4, 1, 1, x.c.group, inc
	want.Corr, want.To = x.under.Corr, x.under.To
	if got, want := fmt.Sprintf("%+v", x.under), fmt.Sprintf("%+v", want); got != want {
		x.t.Fatalf("it asks %s\nwant %s", got, want)
	}
}

// answer is an answer to the request under way.
func (x *talk) answer(m api.Msg) api.Msg {
	m.Kind, m.Corr, m.Inc, m.Tx = api.MReply, x.under.Corr, x.under.Inc, x.under.Tx
	m.From, m.To = x.under.To, x.under.From
	return m
}

// told hands it an answer.
func (x *talk) told(m api.Msg) {
	x.t.Helper()
	x.next = append(x.next, x.w.handle(x.answer(m))...)
}

// refused hands it an error.
func (x *talk) refused(e api.Errno) {
	x.t.Helper()
	x.told(api.Msg{E: e})
}

// again lets it begin anew.
func (x *talk) again() {
	x.t.Helper()
	x.w.again()
	x.next = nil
}

// sees: this is what it has seen, in all.
func (x *talk) sees(want ...api.Seen) {
	x.t.Helper()
	for i := range want {
		want[i].Client = x.c.number
	}
	if got, want := fmt.Sprintf("%+v", x.c.Trace()), fmt.Sprintf("%+v", want); got != want {
		x.t.Fatalf("it has seen %s\nwant %s", got, want)
	}
}

// stands: it stands there, and has begun anew so often.
func (x *talk) stands(place, inc int, ended bool) {
	x.t.Helper()
	if p, i, e := x.c.State(); p != place || i != inc || e != ended {
		x.t.Fatalf("State() = %d, %d, %v, want %d, %d, %v", p, i, e, place, inc, ended)
	}
}

// ends: the program ends without any answer more, an operation a tick, and then nothing is done any more.
func (x *talk) ends() {
	x.t.Helper()
	for range len(x.c.ops) + 1 {
		x.ticks(1)
	}
	if _, _, ended := x.c.State(); !ended {
		x.t.Fatal("it hasn't ended")
	}
	x.ticks(30)
}

func sent(op, part, offset int, value string) api.Seen {
	return api.Seen{Kind: api.TrSent, Op: op, Part: part, Offset: offset, Value: value}
}

func read(op, part, offset int, value string) api.Seen {
	return api.Seen{Kind: api.TrRead, Op: op, Part: part, Offset: offset, Value: value}
}

func seek(op, part, offset int) api.Seen {
	return api.Seen{Kind: api.TrSeek, Op: op, Part: part, Offset: offset}
}

// seen is what has only its kind.
func seen(kind, op int) api.Seen {
	return api.Seen{Kind: kind, Op: op}
}

func failed(op int, e api.Errno) api.Seen {
	return api.Seen{Kind: api.TrFailed, Op: op, E: e}
}

// records are values without a producer, at an offset.
func records(base int, list ...string) api.Batch {
	b := api.Batch{Base: base}
	for _, v := range list {
		b.Values = append(b.Values, []byte(v))
	}
	return b
}

// within are values of a producer's transaction.
func within(pid uint64, epoch, seq int, list ...string) api.Batch {
	b := records(0, list...)
	b.Pid, b.PEpoch, b.Seq, b.Txn = pid, epoch, seq, true
	return b
}

// at is a batch at an offset.
func at(base int, b api.Batch) api.Batch {
	b.Base = base
	return b
}

func marker(base int, pid uint64, commit bool) api.Batch {
	return api.Batch{Base: base, Pid: pid, PEpoch: 1, Txn: true, Control: true, Commit: commit}
}

// The requests, beside what each has.

func produce(part int, b api.Batch) api.Msg {
	return api.Msg{Kind: api.MProduce, Part: part, Batch: b}
}

func add(pid uint64, epoch, part int) api.Msg {
	return api.Msg{Kind: api.MAdd, Pid: pid, Epoch: epoch, Offset: part}
}

func end(pid uint64, epoch int, commit bool) api.Msg {
	return api.Msg{Kind: api.MEnd, Pid: pid, Epoch: epoch, Commit: commit}
}

func readFrom(part, offset int) api.Msg {
	return api.Msg{Kind: api.MRead, Part: part, Offset: offset}
}

func offsetOf(part int) api.Msg {
	return api.Msg{Kind: api.MOffset, Part: part}
}

func commitAt(gen, part, offset int) api.Msg {
	return api.Msg{Kind: api.MCommit, Gen: gen, Part: part, Offset: offset}
}

var (
	initiate = api.Msg{Kind: api.MInit}
	join     = api.Msg{Kind: api.MJoin}
)

// team is an answer to MJoin.
func team(gen int, members ...int) api.Msg {
	return api.Msg{Gen: gen, Members: members}
}

// batches is an answer to MRead.
func batches(high int, list ...api.Batch) api.Msg {
	return api.Msg{High: high, Batches: list}
}

// begins lets the client have the producer 7 from the epoch 4 on.
func (x *talk) begins() {
	x.t.Helper()
	x.asks(initiate)
	x.told(api.Msg{Pid: 7, Epoch: 4, Offset: -1})
}

// sends lets it write a value, the first one to that partition in its transaction.
func (x *talk) sends(epoch, part, offset int, value string) {
	x.t.Helper()
	x.asks(add(7, epoch, part))
	x.told(api.Msg{})
	x.asks(produce(part, within(7, epoch, 0, value)))
	x.told(api.Msg{Offset: offset})
}
