package node

import (
	"math"
	"math/rand"
	"testing"

	"penstock/api"
	"penstock/disk"
	"penstock/image"
)

// forger makes messages that no node would send.
type forger struct {
	*rand.Rand
	c api.Config
}

// number is mostly small.
func (f forger) number() int {
	if f.Intn(12) == 0 {
		return []int{-1, -2, math.MinInt, math.MaxInt, math.MaxInt - 1, 1 << 40}[f.Intn(6)]
	}
	return f.Intn(7)
}

func (f forger) numbers() []int {
	var list []int
	for range f.Intn(4) {
		list = append(list, f.number())
	}
	return list
}

func (f forger) batch() api.Batch {
	b := api.Batch{Base: f.number(), Epoch: f.number(), Pid: uint64(f.number()), PEpoch: f.number(), Seq: f.number()}
	b.Txn, b.Control, b.Commit = f.Intn(2) == 0, f.Intn(4) == 0, f.Intn(4) == 0
	for range f.Intn(3) {
		v := make([]byte, f.Intn(70))
		f.Read(v)
		b.Values = append(b.Values, v)
	}
	return b
}

func (f forger) raft() api.RMsg {
	m := api.RMsg{Kind: f.number(), From: f.Intn(f.c.Nodes), Term: f.number(), Index: f.number(), LogTerm: f.number(), Commit: f.number(), Reject: f.Intn(3) == 0}
	for range f.Intn(4) {
		m.Entries = append(m.Entries, api.Entry{Term: f.number(), Data: []byte("xyz")[:f.Intn(4)]})
	}
	return m
}

func (f forger) msg() api.Msg {
	m := api.Msg{
		Kind: f.Intn(18) - 1, From: f.number(), Corr: f.number(), E: api.Errno(f.number()), Raft: f.raft(),
		Fetch:   api.FetchReq{Part: f.number(), Epoch: f.number(), Node: f.number(), Offset: f.number(), LastEpoch: f.number()},
		Fetched: api.FetchReply{Part: f.number(), Epoch: f.number(), High: f.number(), Diverges: f.Intn(3) == 0, EndEpoch: f.number(), End: f.number(), Offset: f.number(), LastEpoch: f.number()},
		Cmd:     api.Cmd{Kind: f.number(), Node: f.number(), Part: f.number(), Epoch: f.number(), Version: f.number(), List: f.numbers()},
		Batch:   f.batch(), Part: f.number(), Offset: f.number(), Tx: f.number(), Inc: f.number(), Pid: uint64(f.number()), Epoch: f.number(),
		Commit: f.Intn(2) == 0, Group: f.number(), Gen: f.number(), Member: f.number(), Members: f.numbers(), High: f.number(),
	}
	for range f.Intn(3) {
		m.Fetched.Batches = append(m.Fetched.Batches, f.batch())
	}
	m.From = []int{m.From, m.Raft.From, m.Fetch.Node}[f.Intn(3)]
	return m
}

// TestStrangeEntries: what nodes of this cluster don't make isn't laid, and isn't kept.
func TestStrangeEntries(t *testing.T) {
	m, _ := image.New(2, 3, 1)
	nodes, _ := m.Bytes()
	m, _ = image.New(3, 4, 1)
	parts, _ := m.Bytes()
	m, _ = image.New(3, 3, 1)
	m.Apply(api.Cmd{Kind: api.CJoin, Node: 1, Epoch: 1})
	fits, _ := m.Bytes()
	for _, r := range []api.RMsg{
		{Kind: api.RAppend, Commit: 1, Entries: []api.Entry{{Term: 1, Data: make([]byte, 5000)}}},
		{Kind: api.RAppend, Commit: 2, Entries: []api.Entry{{Term: 1}, {Term: 1, Data: []byte("x")}}},
		{Kind: api.RSnap, Index: 5, Snap: nodes},
		{Kind: api.RSnap, Index: 5, Snap: parts},
		{Kind: api.RSnap, Index: 5, Snap: []byte("x")},
		{Kind: api.RSnap, Index: 5},
	} {
		n := openOn(t, 0, one(3, 1), disk.New())
		before := n.Image()
		r.From, r.Term = 1, 1
		if out := n.Handle(api.Msg{Kind: api.MRaft, From: 1, Raft: r}); len(out) > 0 || n.Broken() || len(n.Applied()) > 0 {
			t.Errorf("behind %+v: %+v, broken: %v", r, out, n.Broken())
		}
		same(t, "Image", n.Image(), before)
	}
	n := openOn(t, 0, one(3, 1), disk.New())
	n.Handle(api.Msg{Kind: api.MRaft, From: 1, Raft: api.RMsg{Kind: api.RSnap, From: 1, Term: 1, Index: 5, Snap: fits}})
	same(t, "Image", n.Image(), fits)
}

// TestForged: whatever nodes are handed, each call ends, and none panics.
func TestForged(t *testing.T) {
	answered := 0
	for seed := range int64(300) {
		draw := rand.New(rand.NewSource(seed))
		c := drawn(draw, 1+int(seed%5), 1)
		f := forger{draw, c}
		d := disk.New()
		n := openOn(t, 0, c, d)
		for range 400 {
			if draw.Intn(3) == 0 {
				n.Tick(draw.Uint64())
				continue
			}
			m := f.msg()
			m.Raft.To = draw.Intn(10) / 9
			answered += len(n.Handle(m))
			if k := f.number(); draw.Intn(10) == 0 {
				n.Part(k)
				n.Applied()
			}
		}
		d.Crash(draw.Int())
		// What was forged may be nothing that a node can be opened on; that is an error, too.
		if n, e := Open(0, c, d); (n == nil) == (e == api.OK) {
			t.Errorf("seed %d: Open = %v, %d", seed, n, e)
		}
	}
	if answered < 1000 {
		t.Errorf("%d answers", answered)
	}
}
