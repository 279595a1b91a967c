package cluster

import (
	"bytes"
	"math/rand"
	"reflect"
	"slices"
	"testing"

	"penstock/api"
	"penstock/client"
	"penstock/disk"
	"penstock/node"
	"penstock/wire"
)

// mirror does what the chapter says in plain words, without a net.
type mirror struct {
	c       api.Config
	disks   []*disk.Disk
	nodes   []*node.Node // nil: it is down
	clients []*client.Client
	seen    []int // of each client
	trace   []api.Seen
	flight  []api.Packet
	cut     [api.MaxNodes][api.MaxNodes]bool
}

func newMirror(c api.Config) *mirror {
	m := &mirror{c: c, seen: make([]int, len(c.Clients))}
	for id := range c.Nodes {
		d := disk.New()
		n, _ := node.Open(id, c, d)
		m.disks, m.nodes = append(m.disks, d), append(m.nodes, n)
	}
	for number := range c.Clients {
		p, _ := client.New(number, c)
		m.clients = append(m.clients, p)
	}
	return m
}

// counted is a number counted round.
func counted(i, many int) int {
	for i %= many; i < 0; {
		i += many
	}
	return i
}

func (m *mirror) do(e api.Event) {
	a, b := counted(e.A, m.c.Nodes), counted(e.B, m.c.Nodes)
	switch e.Kind {
	case api.EDeliver, api.EDrop, api.ECopy:
		if len(m.flight) > 0 {
			m.packet(e.Kind, counted(e.A, len(m.flight)))
		}
	case api.ETick:
		m.tick(counted(e.A, m.c.Nodes+len(m.clients)), uint64(e.B))
	case api.ECut:
		m.cut[a][b], m.cut[b][a] = a != b, a != b
	case api.EHeal:
		m.cut = [api.MaxNodes][api.MaxNodes]bool{}
	case api.ECrash:
		if e.B < 0 {
			m.nodes[a] = nil
		} else {
			m.disks[a].Arm(e.B)
		}
	case api.ERise:
		m.disks[a].Crash(e.C)
		m.nodes[a], _ = node.Open(a, m.c, m.disks[a])
	case api.EAgain:
		if len(m.clients) > 0 {
			m.clients[counted(e.A, len(m.clients))].Again()
		}
	case api.EMove:
		m.move(counted(e.A, m.c.Parts), b)
	}
}

func (m *mirror) packet(kind, i int) {
	p := m.flight[i]
	switch {
	case kind == api.ECopy:
		m.send(p)
		return
	case kind == api.EDeliver && (p.From >= m.c.Nodes || p.To >= m.c.Nodes || !m.cut[p.From][p.To]):
		m.flight = slices.Delete(m.flight, i, i+1)
		msg, _ := wire.Decode(p.Body)
		m.did(p.To, m.handled(p.To, msg))
		return
	}
	m.flight = slices.Delete(m.flight, i, i+1)
}

func (m *mirror) send(p api.Packet) {
	if len(m.flight) < 256 {
		m.flight = append(m.flight, p)
	}
}

func (m *mirror) handled(to int, msg api.Msg) []api.Msg {
	switch {
	case to >= m.c.Nodes:
		return m.clients[to-m.c.Nodes].Handle(msg)
	case m.nodes[to] != nil:
		return m.nodes[to].Handle(msg)
	}
	return nil
}

func (m *mirror) tick(i int, draw uint64) {
	switch {
	case i >= m.c.Nodes:
		m.did(i, m.clients[i-m.c.Nodes].Tick())
	case m.nodes[i] != nil:
		m.did(i, m.nodes[i].Tick(draw))
	}
}

// did looks at who has done something.
func (m *mirror) did(i int, out []api.Msg) {
	if i >= m.c.Nodes {
		number := i - m.c.Nodes
		list := m.clients[number].Trace()
		m.trace = append(m.trace, list[m.seen[number]:]...)
		m.seen[number] = len(list)
	} else if m.disks[i].Dead() {
		m.nodes[i] = nil
	}
	for _, msg := range out {
		text, _ := wire.Encode(msg)
		m.send(api.Packet{From: msg.From, To: msg.To, Body: text})
	}
}

func (m *mirror) move(k, from int) {
	var list []int
	for id := range m.c.Nodes {
		if counted(id-from, m.c.Nodes) < m.c.Copies {
			list = append(list, id)
		}
	}
	for id, n := range m.nodes {
		if n != nil {
			m.did(id, n.Handle(api.Msg{Kind: api.MCmd, From: id, To: id, Cmd: api.Cmd{Kind: api.CMove, Part: k, List: list}}))
		}
	}
}

// wantAlike: a cluster is as its mirror.
func (m *mirror) wantAlike(t *testing.T, x *Cluster) {
	t.Helper()
	same := func(a, b api.Packet) bool { return a.From == b.From && a.To == b.To && bytes.Equal(a.Body, b.Body) }
	if list := flight(x); !slices.EqualFunc(list, m.flight, same) {
		t.Errorf("in flight: %+v\nwant: %+v", list, m.flight)
	}
	if got := x.Trace(); !slices.Equal(got, m.trace) {
		t.Errorf("seen: %+v\nwant: %+v", got, m.trace)
	}
	for id, n := range m.nodes {
		if x.Up(id) != (n != nil) || !reflect.DeepEqual(x.Applied(id), n.Applied()) {
			t.Errorf("the node %d: up %v, %+v\nwant %+v", id, x.Up(id), x.Applied(id), n.Applied())
		}
		for k := range m.c.Parts + 2 {
			log, high, leads := x.Part(id, k)
			wantLog, wantHigh, wantLeads := n.Part(k)
			if !reflect.DeepEqual(log, wantLog) || high != wantHigh || leads != wantLeads {
				t.Errorf("the node %d, partition %d: %+v, %d, %v\nwant %+v, %d, %v", id, k, log, high, leads, wantLog, wantHigh, wantLeads)
			}
		}
	}
	done := true
	for _, p := range m.clients {
		_, _, ended := p.State()
		done = done && ended
	}
	if x.Done() != done {
		t.Errorf("done: %v", x.Done())
	}
}

// anyNumber is a number as an event may have it.
func anyNumber(draw *rand.Rand) int {
	switch draw.Intn(10) {
	case 0:
		return int(draw.Uint64())
	case 1:
		return -draw.Intn(200)
	}
	return draw.Intn(200)
}

// TestMirror: events of all kinds, and numbers, do what the chapter says.
func TestMirror(t *testing.T) {
	t.Parallel()
	far := 0
	for seed := range 60 {
		draw := rand.New(rand.NewSource(int64(seed)))
		c := anySettings(draw, 1+seed%5)
		x, _ := New(c)
		m := newMirror(c)
		for i := range 3000 {
			e := api.Event{Kind: draw.Intn(4) / 3 * api.ETick, A: anyNumber(draw), B: anyNumber(draw), C: anyNumber(draw)}
			if draw.Intn(12) == 0 {
				e.Kind = draw.Intn(14) - 2
			}
			if e.Kind == api.ETick && draw.Intn(2) == 0 {
				e.A = i % (c.Nodes + len(c.Clients))
			}
			x.Do(e)
			m.do(e)
			if x.Flight() != len(m.flight) {
				t.Fatalf("seed %d: %+v: in flight are %d, want %d", seed, e, x.Flight(), len(m.flight))
			}
			if i%300 == 0 || e.Kind == api.EMove {
				m.wantAlike(t, x)
			}
		}
		m.wantAlike(t, x)
		if t.Failed() {
			t.Fatalf("seed %d", seed)
		}
		far += len(m.trace)
	}
	if far < 200 {
		t.Errorf("seen: %d", far)
	}
}

// TestSame: the same settings and events: the same in all.
func TestSame(t *testing.T) {
	t.Parallel()
	for seed := range 15 {
		var all []*run
		for range 2 {
			draw := rand.New(rand.NewSource(int64(seed)))
			r := newRun(t, anySettings(draw, 1+seed%5))
			r.trouble(draw, 1500)
			r.calm(3)
			r.calmRounds(40)
			r.trouble(draw, 500)
			all = append(all, r)
		}
		a, b := all[0].x, all[1].x
		if !reflect.DeepEqual(flight(a), flight(b)) || !slices.Equal(a.Trace(), b.Trace()) || a.Done() != b.Done() {
			t.Errorf("seed %d: seen are %+v\nand %+v", seed, a.Trace(), b.Trace())
		}
		for id := range api.MaxNodes {
			if a.Up(id) != b.Up(id) || !reflect.DeepEqual(a.Applied(id), b.Applied(id)) {
				t.Errorf("seed %d: the nodes %d differ", seed, id)
			}
			for k := range api.MaxParts + 2 {
				log1, high1, leads1 := a.Part(id, k)
				log2, high2, leads2 := b.Part(id, k)
				if !reflect.DeepEqual(log1, log2) || high1 != high2 || leads1 != leads2 {
					t.Errorf("seed %d: the partitions %d of the nodes %d differ", seed, k, id)
				}
			}
		}
	}
}
