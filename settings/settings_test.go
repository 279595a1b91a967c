package settings

import (
	"strings"
	"testing"

	"penstock/api"
)

// fine are settings that may be.
func fine() api.Config {
	return api.Config{Nodes: 3, Parts: 2, Copies: 2, Clients: []api.Program{
		{Group: 1, Ops: []api.Op{{Kind: api.OSend, Part: 1, Value: "a"}, {Kind: api.OCommit}}},
		{Ops: []api.Op{{Kind: api.OCopy, Part: 0, To: 1, Count: 3}}},
	}}
}

// many are so many operations.
func many(n int) []api.Op {
	var list []api.Op
	for range n {
		list = append(list, api.Op{Kind: api.OAbort})
	}
	return list
}

// withOp are settings of which the last operation is changed.
func withOp(change func(*api.Op)) func(*api.Config) {
	return func(c *api.Config) { change(&c.Clients[1].Ops[0]) }
}

func TestCheck(t *testing.T) {
	type row struct {
		what   string
		change func(*api.Config)
		want   api.Errno
	}
	rows := []row{
		{"as they are", func(c *api.Config) {}, api.OK},
		{"no node", func(c *api.Config) { c.Nodes = 0 }, api.ErrArg},
		{"Nodes below 0", func(c *api.Config) { c.Nodes = -1 }, api.ErrArg},
		{"one node", func(c *api.Config) { c.Nodes, c.Copies = 1, 1 }, api.OK},
		{"five nodes", func(c *api.Config) { c.Nodes, c.Copies = 5, 5 }, api.OK},
		{"six nodes", func(c *api.Config) { c.Nodes = 6 }, api.ErrArg},
		{"no partition", func(c *api.Config) { c.Parts, c.Clients = 0, nil }, api.ErrArg},
		{"one partition", func(c *api.Config) { c.Parts, c.Clients = 1, nil }, api.OK},
		{"four partitions", func(c *api.Config) { c.Parts = 4 }, api.OK},
		{"five partitions", func(c *api.Config) { c.Parts = 5 }, api.ErrArg},
		{"no copy", func(c *api.Config) { c.Copies = 0 }, api.ErrArg},
		{"Copies below 0", func(c *api.Config) { c.Copies = -1 }, api.ErrArg},
		{"a copy on each node", func(c *api.Config) { c.Copies = 3 }, api.OK},
		{"more copies than nodes", func(c *api.Config) { c.Copies = 4 }, api.ErrArg},
		{"no client", func(c *api.Config) { c.Clients = nil }, api.OK},
		{"four clients", func(c *api.Config) { c.Clients = append(c.Clients, c.Clients...) }, api.OK},
		{"five clients", func(c *api.Config) { c.Clients = make([]api.Program, 5) }, api.ErrArg},
		{"Group below 0", func(c *api.Config) { c.Clients[1].Group = -1 }, api.ErrArg},
		{"the last group", func(c *api.Config) { c.Clients[1].Group = 7 }, api.OK},
		{"a group too much", func(c *api.Config) { c.Clients[1].Group = 8 }, api.ErrArg},
		{"no operation", func(c *api.Config) { c.Clients[1].Ops = nil }, api.OK},
		{"64 operations", func(c *api.Config) { c.Clients[1].Ops = many(64) }, api.OK},
		{"65 operations", func(c *api.Config) { c.Clients[1].Ops = many(65) }, api.ErrArg},
		{"Kind 0", withOp(func(o *api.Op) { o.Kind = 0 }), api.ErrArg},
		{"Kind 6", withOp(func(o *api.Op) { o.Kind = 6 }), api.ErrArg},
		{"Kind below 0", withOp(func(o *api.Op) { o.Kind = -1 }), api.ErrArg},
		{"Part below 0", withOp(func(o *api.Op) { o.Part = -1 }), api.ErrArg},
		{"Part that there isn't", withOp(func(o *api.Op) { o.Part = 2 }), api.ErrArg},
		{"To below 0", withOp(func(o *api.Op) { o.To = -1 }), api.ErrArg},
		{"To that there isn't", withOp(func(o *api.Op) { o.To = 2 }), api.ErrArg},
		{"To, of one that has no use for it", withOp(func(o *api.Op) { o.Kind, o.To = api.OAbort, 2 }), api.ErrArg},
		{"Count below 0", withOp(func(o *api.Op) { o.Count = -1 }), api.ErrArg},
		{"Count 0", withOp(func(o *api.Op) { o.Count = 0 }), api.OK},
		{"Count 16", withOp(func(o *api.Op) { o.Count = 16 }), api.OK},
		{"Count 17", withOp(func(o *api.Op) { o.Count = 17 }), api.ErrArg},
		{"64 bytes", withOp(func(o *api.Op) { o.Value = strings.Repeat("v", 64) }), api.OK},
		{"65 bytes", withOp(func(o *api.Op) { o.Value = strings.Repeat("v", 65) }), api.ErrArg},
	}
	for kind := api.OSend; kind <= api.OCopy; kind++ {
		rows = append(rows, row{"each kind", withOp(func(o *api.Op) { o.Kind = kind }), api.OK})
	}
	for _, r := range rows {
		c := fine()
		r.change(&c)
		if e := Check(c); e != r.want {
			t.Errorf("%s: Check(%+v) = %d, want %d", r.what, c, e, r.want)
		}
	}
	if e := Check(api.Config{}); e != api.ErrArg {
		t.Errorf("Check of none = %d", e)
	}
}
