package client

import (
	"math"
	"testing"

	"penstock/api"
)

// How a client asks: a request at a time, again and again, of one node after the other.

// others are errors that are answers, but ErrSpent.
var others = []api.Errno{api.ErrLong, api.ErrEnd, api.ErrForm, api.ErrCrc, api.ErrFenced, api.ErrSeq, api.ErrOffset, api.ErrTxn, api.ErrGen, -1, 18, 99}

// none are errors that count for no answer.
var none = []api.Errno{api.ErrLeader, api.ErrBusy, api.ErrArg, api.ErrState, api.ErrNone, api.ErrDead, api.ErrFull}

// TestAskedAgain: the same is asked of one node after the other, by every tenth tick at the latest; the watch looks at all of that.
func TestAskedAgain(t *testing.T) {
	x := writer(t, send(2, "a"), commits)
	asked := map[int]int{}
	for range 12 {
		x.asks(initiate)
		asked[x.under.To]++
		count := 0
		for len(x.next) == 0 {
			x.tick()
			count++
		}
		if count > 10 {
			t.Fatalf("asked again behind %d ticks", count)
		}
	}
	if asked[0] != 4 || asked[1] != 4 || asked[2] != 4 {
		t.Errorf("asked: %v", asked)
	}
	// Any node's answer will do, be it of one that was asked long ago.
	x.asks(initiate)
	m := x.answer(api.Msg{Pid: 7, Epoch: 4})
	m.From = (x.under.To + 1) % 3
	x.next = x.w.handle(m)
	x.asks(add(7, 4, 2))
	if x.under.To != m.From {
		t.Errorf("asked %d, but %d had answered", x.under.To, m.From)
	}
}

// TestOneNode: where there is one node it is asked again and again.
func TestOneNode(t *testing.T) {
	c := newClient(t, 0, api.Config{Nodes: 1, Parts: 1, Copies: 1, Clients: []api.Program{{Ops: []api.Op{send(0, "a")}}}})
	w := newWatch(t, c)
	count := 0
	for range 100 {
		for _, m := range w.tick() {
			if count++; m.To != 0 || m.Kind != api.MInit {
				t.Errorf("it asks %+v", m)
			}
		}
	}
	if count < 10 {
		t.Errorf("asked %d times", count)
	}
}

// TestNoAnswers: errors that count for none.
func TestNoAnswers(t *testing.T) {
	x := writer(t, send(2, "a"), commits)
	for _, want := range []api.Msg{initiate, add(7, 4, 2), produce(2, within(7, 4, 0, "a")), end(7, 4, true)} {
		x.asks(want)
		for _, e := range none {
			to := x.under.To
			x.refused(e)
			x.silent() // at once it would be asked for ever, where nothing goes on without a tick
			x.asks(want)
			if x.under.To != (to+1)%3 {
				t.Errorf("behind %d it asks %d", to, x.under.To)
			}
		}
		x.told(api.Msg{Pid: 7, Epoch: 4})
	}
	x.ticks(1)
	x.sees(sent(0, 2, 0, "a"), seen(api.TrCommit, 1), seen(api.TrDone, 2))
	x.stands(2, 0, true)
}

// TestOtherAnswers: answers to other questions, of other incarnations, and what is no answer, are nothing.
func TestOtherAnswers(t *testing.T) {
	x := writer(t, send(2, "a"), commits)
	x.told(api.Msg{}) // ahead of all questions
	x.silent()
	x.begins()
	x.again()
	x.asks(initiate)
	good := x.answer(api.Msg{Pid: 8, Epoch: 2})
	for _, change := range []func(*api.Msg){
		func(m *api.Msg) { m.Corr++ },
		func(m *api.Msg) { m.Corr-- },
		func(m *api.Msg) { m.Corr = 0 },
		func(m *api.Msg) { m.Corr = math.MinInt },
		func(m *api.Msg) { m.Inc-- },
		func(m *api.Msg) { m.Inc++ },
		func(m *api.Msg) { m.Inc = -1 },
		func(m *api.Msg) { m.Kind = 0 },
		func(m *api.Msg) { m.Kind = api.MInit },
		func(m *api.Msg) { m.Kind = api.MOffset },
		func(m *api.Msg) { m.Kind = 16 },
	} {
		for _, e := range []api.Errno{api.OK, api.ErrBusy, api.ErrSpent, api.ErrFenced} {
			m := good
			change(&m)
			m.E = e
			if out := x.w.handle(m); len(out) > 0 {
				t.Errorf("of %+v comes %+v", m, out)
			}
			x.stands(0, 1, false)
		}
	}
	x.sees()
	x.told(api.Msg{Pid: 8, Epoch: 2})
	x.asks(add(8, 2, 2))
	// The same answer once more is one to another question.
	if out := x.w.handle(good); len(out) > 0 {
		t.Errorf("the second time: %+v", out)
	}
}

// TestAnswersOfStrangers: who answered last is asked next, but only if it is a node.
func TestAnswersOfStrangers(t *testing.T) {
	for _, from := range []int{-1, 3, 4, math.MaxInt, math.MinInt} {
		x := writer(t, send(2, "a"), commits)
		x.asks(initiate)
		m := x.answer(api.Msg{Pid: 7, Epoch: 4})
		m.From = from
		x.next = x.w.handle(m)
		x.asks(add(7, 4, 2))
	}
}

// TestLeadersAreKnown: each partition is asked for where it was answered last; who begins anew doesn't know that any more.
func TestLeadersAreKnown(t *testing.T) {
	x := writer(t, send(2, "a"), send(1, "b"), send(2, "c"), commits)
	to := func(want api.Msg, node int) {
		t.Helper()
		for x.asks(want); x.under.To != node; x.asks(want) {
			x.refused(api.ErrLeader)
		}
	}
	first := func(want api.Msg, node int) {
		t.Helper()
		x.asks(want)
		if x.under.To != node {
			t.Errorf("%+v is asked for at %d, not at %d", want, x.under.To, node)
		}
	}
	to(initiate, 2)
	x.told(api.Msg{Pid: 7, Epoch: 4})
	first(add(7, 4, 2), 2)
	x.told(api.Msg{})
	to(produce(2, within(7, 4, 0, "a")), 1)
	x.told(api.Msg{})
	first(add(7, 4, 1), 2)
	x.told(api.Msg{})
	x.asks(produce(1, within(7, 4, 0, "b")))
	x.told(api.Msg{})
	first(produce(2, within(7, 4, 1, "c")), 1)
	x.told(api.Msg{})
	first(end(7, 4, true), 2)
	x.again()
	first(initiate, 0)
}

// TestDoneAtOnce: what needs no answer is done by the next tick, one thing at a time, and nothing is sent.
func TestDoneAtOnce(t *testing.T) {
	x := writer(t, commits, aborts, poll(0), copyTo(0, 1, 0), commits)
	var want []api.Seen
	for i, kind := range []int{api.TrCommit, api.TrAbort, 0, 0, api.TrCommit, api.TrDone} {
		x.stands(i, 0, false)
		x.ticks(1)
		if kind != 0 {
			want = append(want, seen(kind, i))
		}
		x.sees(want...)
	}
	x.stands(5, 0, true)
	x.ticks(20)
	x.sees(want...)
}

// TestEnded: behind its end nothing is done, nor sent, nor seen, though it begin anew.
func TestEnded(t *testing.T) {
	x := writer(t, send(0, "a"))
	x.begins()
	x.sends(4, 0, 3, "a")
	x.ends()
	for inc := range 3 {
		x.stands(1, inc, true)
		x.told(api.Msg{E: api.ErrFenced})
		x.ticks(15)
		x.again()
		x.ticks(15)
	}
	x.sees(sent(0, 0, 3, "a"), seen(api.TrDone, 1))
}
