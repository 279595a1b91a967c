package node

import (
	"fmt"
	"testing"

	"penstock/api"
	"penstock/disk"
	"penstock/image"
)

// caller is the address of a client that asks.
const caller = 9

// one is settings of so many nodes, and as many copies, without clients.
func one(nodes, parts int) api.Config {
	return api.Config{Nodes: nodes, Parts: parts, Copies: nodes}
}

func openOn(t *testing.T, id int, c api.Config, d *disk.Disk) *Node {
	t.Helper()
	n, e := Open(id, c, d)
	if n == nil || e != api.OK {
		t.Fatalf("Open(%d, %+v) = %v, %d", id, c, n, e)
	}
	return n
}

// alone is a node alone, that leads all.
func alone(t *testing.T, c api.Config, d *disk.Disk) *Node {
	t.Helper()
	n := openOn(t, 0, c, d)
	ticks(t, n, 12)
	for k := range c.Parts + 2 {
		wantLeads(t, n, k, true)
	}
	return n
}

// ticks lets a node's clock go on; a node alone sends nothing.
func ticks(t *testing.T, n *Node, count int) {
	t.Helper()
	for i := range count {
		if out := n.Tick(uint64(i)); len(out) > 0 {
			t.Fatalf("Tick sends %+v", out)
		}
	}
}

// asks is the answer to a request, that comes at once.
func asks(t *testing.T, n *Node, m api.Msg) api.Msg {
	t.Helper()
	m.From = caller
	out := n.Handle(m)
	if len(out) != 1 {
		t.Fatalf("Handle(%+v) sends %+v", m, out)
	}
	return out[0]
}

// wantAnswer: a request is answered at once, by this and by what every answer has.
func wantAnswer(t *testing.T, what string, n *Node, m, want api.Msg) {
	t.Helper()
	m.Corr, m.Inc = 7, max(m.Inc, 1)
	want.Kind, want.To, want.From = api.MReply, caller, n.id
	want.Corr, want.Inc, want.Tx = m.Corr, m.Inc, m.Tx
	same(t, what, asks(t, n, m), want)
}

// wantErrno: a request is answered at once by an error, and nothing else.
func wantErrno(t *testing.T, what string, n *Node, m api.Msg, e api.Errno) {
	t.Helper()
	wantAnswer(t, what, n, m, api.Msg{E: e})
}

func wantLeads(t *testing.T, n *Node, k int, want bool) {
	t.Helper()
	if _, _, leads := n.Part(k); leads != want {
		t.Errorf("the node %d leads the partition %d: %v", n.id, k, leads)
	}
}

// same holds two things against each other by their texts, in which a nil list and an empty one are one.
func same(t *testing.T, what string, got, want any) {
	t.Helper()
	if a, b := fmt.Sprintf("%+v", got), fmt.Sprintf("%+v", want); a != b {
		t.Errorf("%s = %s\nwant %s", what, a, b)
	}
}

// records are values without a producer.
func records(values ...string) api.Batch {
	var b api.Batch
	for _, v := range values {
		b.Values = append(b.Values, []byte(v))
	}
	return b
}

// within are values of a producer's transaction.
func within(pid uint64, epoch, seq int, values ...string) api.Batch {
	b := records(values...)
	b.Pid, b.PEpoch, b.Seq, b.Txn = pid, epoch, seq, true
	return b
}

// at is a batch at an offset, of a leader's epoch.
func at(base, epoch int, b api.Batch) api.Batch {
	b.Base, b.Epoch = base, epoch
	return b
}

func marker(pid uint64, epoch int, commit bool) api.Batch {
	return api.Batch{Pid: pid, PEpoch: epoch, Txn: true, Control: true, Commit: commit}
}

// imageOf reads a node's image.
func imageOf(t *testing.T, n *Node) *image.Image {
	t.Helper()
	m, e := image.Read(n.Image())
	if e != api.OK {
		t.Fatalf("Image = %v: %d", n.Image(), e)
	}
	return m
}

// partOf is what a node's image says of a partition.
func partOf(t *testing.T, n *Node, k int) api.Part {
	t.Helper()
	p, ok := imageOf(t, n).Part(k)
	if !ok {
		t.Fatalf("the image has no partition %d", k)
	}
	return p
}
