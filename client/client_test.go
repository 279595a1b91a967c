package client

import (
	"fmt"
	"math"
	"strings"
	"testing"

	"penstock/api"
)

// P19.1: Check, New; nil, and memory.

// fine are settings that may be.
func fine() api.Config {
	return api.Config{Nodes: 3, Parts: 2, Copies: 2, Clients: []api.Program{
		{Group: 7, Ops: []api.Op{send(1, "a"), commits}},
		{Ops: []api.Op{copyTo(0, 1, 16)}},
	}}
}

func TestSettings(t *testing.T) {
	long := strings.Repeat("v", 65)
	for what, change := range map[string]func(*api.Config){
		"no node":                   func(c *api.Config) { c.Nodes = 0 },
		"six nodes":                 func(c *api.Config) { c.Nodes = 6 },
		"no partition":              func(c *api.Config) { c.Parts = 0 },
		"five partitions":           func(c *api.Config) { c.Parts = 5 },
		"no copy":                   func(c *api.Config) { c.Copies = 0 },
		"more copies than nodes":    func(c *api.Config) { c.Copies = 4 },
		"five clients":              func(c *api.Config) { c.Clients = make([]api.Program, 5) },
		"a group below 0":           func(c *api.Config) { c.Clients[0].Group = -1 },
		"a group too much":          func(c *api.Config) { c.Clients[0].Group = 8 },
		"65 operations":             func(c *api.Config) { c.Clients[0].Ops = make([]api.Op, 65) },
		"no kind":                   func(c *api.Config) { c.Clients[1].Ops[0].Kind = 0 },
		"a kind too much":           func(c *api.Config) { c.Clients[1].Ops[0].Kind = 6 },
		"a partition below 0":       func(c *api.Config) { c.Clients[1].Ops[0].Part = -1 },
		"a partition too much":      func(c *api.Config) { c.Clients[1].Ops[0].Part = 2 },
		"To below 0":                func(c *api.Config) { c.Clients[1].Ops[0].To = -1 },
		"To too much":               func(c *api.Config) { c.Clients[1].Ops[0].To = 2 },
		"Count below 0":             func(c *api.Config) { c.Clients[1].Ops[0].Count = -1 },
		"Count too much":            func(c *api.Config) { c.Clients[1].Ops[0].Count = 17 },
		"a value of 65 bytes":       func(c *api.Config) { c.Clients[0].Ops[0].Value = long },
		"another client's is wrong": func(c *api.Config) { c.Clients[1].Ops[0].Value = long },
	} {
		c := fine()
		change(&c)
		if e := Check(c); e != api.ErrArg {
			t.Errorf("%s: Check = %d", what, e)
		}
		for _, number := range []int{0, 1, -1, 9} {
			if p, e := New(number, c); p != nil || e != api.ErrArg {
				t.Errorf("%s: New = %v, %d", what, p, e)
			}
		}
	}
	if e := Check(fine()); e != api.OK {
		t.Errorf("Check = %d", e)
	}
	if e := Check(api.Config{}); e != api.ErrArg {
		t.Errorf("Check of none = %d", e)
	}
}

func TestNew(t *testing.T) {
	for _, number := range []int{math.MinInt, -1, 2, 3, 4, math.MaxInt} {
		if p, e := New(number, fine()); p != nil || e != api.ErrArg {
			t.Errorf("New(%d) = %v, %d", number, p, e)
		}
	}
	if p, e := New(0, api.Config{Nodes: 1, Parts: 1, Copies: 1}); p != nil || e != api.ErrArg {
		t.Errorf("New without clients = %v, %d", p, e)
	}
	for number := range 2 {
		c := newClient(t, number, fine())
		place, inc, ended := c.State()
		if place != 0 || inc != 0 || ended || len(c.Trace()) > 0 {
			t.Errorf("a new one: %d, %d, %v, %v", place, inc, ended, c.Trace())
		}
	}
}

func TestNil(t *testing.T) {
	var c *Client
	c.Again()
	if out := c.Tick(); len(out) > 0 {
		t.Errorf("Tick = %v", out)
	}
	if out := c.Handle(api.Msg{Kind: api.MReply}); len(out) > 0 {
		t.Errorf("Handle = %v", out)
	}
	if list := c.Trace(); len(list) > 0 {
		t.Errorf("Trace = %v", list)
	}
	if place, inc, ended := c.State(); place != 0 || inc != 0 || ended {
		t.Errorf("State = %d, %d, %v", place, inc, ended)
	}
}

// TestZero: one that New hasn't made has no program.
func TestZero(t *testing.T) {
	var c Client
	c.Again()
	if out := append(c.Handle(api.Msg{Kind: api.MReply}), c.Tick()...); len(out) > 0 {
		t.Errorf("it sends %v", out)
	}
	if _, _, ended := c.State(); !ended {
		t.Error("it hasn't ended")
	}
}

// TestSettingsAreItsOwn: what becomes of the settings later changes nothing.
func TestSettingsAreItsOwn(t *testing.T) {
	c := fine()
	ops := append(c.Clients[0].Ops, commits, commits)[:2]
	c.Clients[0].Ops = ops
	p := newClient(t, 0, c)
	ops[0], ops[1] = commits, aborts
	if out := p.Tick(); len(out) != 1 || out[0].Kind != api.MInit {
		t.Errorf("Tick = %+v", out)
	}
	if got, want := fmt.Sprint(ops[:4]), fmt.Sprint([]api.Op{commits, aborts, commits, commits}); got != want {
		t.Errorf("the program is %s", got)
	}
}

// TestAnswersAreTheirOwn: messages and traces share no memory with what the client keeps, nor with what it was handed.
func TestAnswersAreTheirOwn(t *testing.T) {
	x := writer(t, send(2, "abc"), commits, copyTo(0, 3, 2))
	x.begins()
	x.asks(add(7, 4, 2))
	x.told(api.Msg{})
	want := produce(2, within(7, 4, 0, "abc"))
	for range 3 {
		x.asks(want)
		x.under.Batch.Values[0][0] = 'X'
		x.under.Batch.Values[0] = nil
		x.ticks(patience - 1)
	}
	x.asks(want)
	x.told(api.Msg{Offset: 5})
	list := x.c.Trace()
	list[0] = api.Seen{}
	_ = append(list[:0], failed(9, 9))
	x.sees(sent(0, 2, 5, "abc"))
	x.asks(end(7, 4, true))
	x.told(api.Msg{Epoch: 6})
	x.asks(join)
	members := []int{1, 2, 3, 4}[:1]
	x.told(team(1, members...))
	x.asks(offsetOf(0))
	x.told(api.Msg{Offset: 0})
	x.asks(readFrom(0, 0))
	b := records(0, "v", "w", "x")
	spare := append(b.Values, []byte("y"))[:2]
	b.Values = spare
	x.told(batches(2, b))
	if members[0] != 1 || fmt.Sprintf("%s", b.Values[:4]) != "[v w x y]" {
		t.Errorf("changed: %v, %s", members, b.Values[:4])
	}
	b.Values[0][0], b.Values[1] = 'Z', nil
	x.asks(add(7, 6, 5))
	x.told(api.Msg{})
	x.asks(add(7, 6, 3))
	x.told(api.Msg{})
	x.asks(produce(3, within(7, 6, 0, "v", "w")))
}
