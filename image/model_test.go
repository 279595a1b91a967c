package image

import (
	"bytes"
	"fmt"
	"math/bits"
	"math/rand"
	"slices"
	"testing"

	"penstock/api"
)

// set is nodes, one a bit.
type set uint

func setOf(list []int) set {
	var s set
	for _, n := range list {
		s |= 1 << n
	}
	return s
}

func (s set) list() []int {
	var list []int
	for n := range bits.UintSize {
		if s>>n&1 == 1 {
			list = append(list, n)
		}
	}
	return list
}

// first is the least one, or -1.
func (s set) first() int {
	if s == 0 {
		return -1
	}
	return bits.TrailingZeros(uint(s))
}

// shelf is a partition of the model.
type shelf struct {
	leader, epoch, version int
	isr, replicas, target  set
}

// model is an image by the chapter's words, with sets for lists.
type model struct {
	nodes   int
	there   set
	times   map[int]int
	blocks  map[int]uint64
	next    int // number of a producer
	shelves []*shelf
}

func newModel(nodes, parts, copies int) *model {
	m := &model{nodes: nodes, times: map[int]int{}, blocks: map[int]uint64{}, next: 1}
	for k := range parts {
		var s set
		for i := range copies {
			s |= 1 << ((k + i) % nodes)
		}
		m.shelves = append(m.shelves, &shelf{leader: -1, isr: s, replicas: s})
	}
	return m
}

func (m *model) elect(p *shelf) {
	p.epoch++
	p.leader = (p.isr & m.there).first()
}

// wrong tells whether there isn't what a command names.
func (m *model) wrong(c api.Cmd) bool {
	if c.Kind < 1 || c.Kind > 5 || len(c.List) > 5 {
		return true
	}
	if c.Kind != api.CMove && (c.Node < 0 || c.Node >= m.nodes) {
		return true
	}
	if c.Kind != api.CMove && c.Kind != api.CIsr {
		return false
	}
	if c.Part < 0 || c.Part >= len(m.shelves) || len(c.List) == 0 {
		return true
	}
	sorted := slices.Compact(slices.Sorted(slices.Values(c.List)))
	return !slices.Equal(sorted, c.List) || sorted[0] < 0 || sorted[len(sorted)-1] >= m.nodes
}

func (m *model) apply(c api.Cmd) api.Errno {
	if m.wrong(c) {
		return api.ErrArg
	}
	one := set(1) << max(c.Node, 0)
	switch c.Kind {
	case api.CJoin:
		if c.Epoch <= m.times[c.Node] {
			return api.ErrState
		}
		m.times[c.Node] = c.Epoch
		m.there |= one
		for _, p := range m.shelves {
			if p.leader == c.Node || p.leader < 0 && p.isr&one != 0 {
				m.elect(p)
			}
		}
	case api.CFence:
		return m.fence(c.Node, one)
	case api.CIsr:
		return m.isr(m.shelves[c.Part], c, setOf(c.List), one)
	case api.CMove:
		p := m.shelves[c.Part]
		if p.target != 0 {
			return api.ErrBusy
		}
		p.target = setOf(c.List)
		m.end(p)
	case api.CBlock:
		if m.next+9 > 1000 {
			return api.ErrSpent
		}
		m.blocks[c.Node] = uint64(m.next)
		m.next += 10
	}
	return api.OK
}

func (m *model) fence(n int, one set) api.Errno {
	if m.there&one == 0 {
		return api.ErrNone
	}
	m.there &^= one
	for _, p := range m.shelves {
		if p.isr&one == 0 {
			continue
		}
		if p.isr&m.there != 0 {
			p.isr &^= one
			p.version++
		}
		if p.leader == n {
			m.elect(p)
		}
	}
	return api.OK
}

func (m *model) isr(p *shelf, c api.Cmd, list, one set) api.Errno {
	if p.leader != c.Node || p.epoch != c.Epoch || p.version != c.Version {
		return api.ErrLeader
	}
	if may := (p.replicas | p.target) & (m.there | p.isr); list&one == 0 || list&^may != 0 {
		return api.ErrState
	}
	p.isr = list
	p.version++
	m.end(p)
	return api.OK
}

func (m *model) end(p *shelf) {
	if p.target == 0 || p.target&^p.isr != 0 {
		return
	}
	p.isr, p.replicas, p.target = p.target, p.target, 0
	p.version++
	if p.leader < 0 || p.isr>>p.leader&1 == 0 {
		m.elect(p)
	}
}

// text is what textOf tells of an image.
func (m *model) text() string {
	text := fmt.Sprint(m.nodes, len(m.shelves))
	for n := range m.nodes {
		text += fmt.Sprintf("\nnode %d: %v %d %d", n, m.there>>n&1 == 1, m.times[n], m.blocks[n])
	}
	for k, p := range m.shelves {
		whole := moving(part(p.leader, p.epoch, p.version, p.isr.list(), p.replicas.list()), p.target.list()...)
		text += fmt.Sprintf("\npart %d: %+v true", k, whole)
	}
	return text + fmt.Sprintf("\npids: %d %d", m.next, 1001-m.next)
}

// modelOf is the model that has what a shape has.
func modelOf(s shape) *model {
	m := newModel(len(s.nodes), 0, 0)
	for n, x := range s.nodes {
		m.times[n], m.blocks[n] = x.time, x.block
		if x.there {
			m.there |= 1 << n
		}
	}
	for _, p := range s.parts {
		m.shelves = append(m.shelves, &shelf{p.Leader, p.Epoch, p.Version, setOf(p.Isr), setOf(p.Replicas), setOf(p.Target)})
	}
	m.next = int(s.next)
	return m
}

// drawnShape may be read, though no commands may ever make it.
func drawnShape(draw *rand.Rand) shape {
	s := shape{nodes: make([]node, 1+draw.Intn(5)), next: uint64(1 + draw.Intn(1001)), count: draw.Intn(9)}
	few := func() []int { return set(1 + draw.Intn(1<<len(s.nodes)-1)).list() }
	for n := range s.nodes {
		s.nodes[n] = node{draw.Intn(2) == 0, draw.Intn(9) - 4, uint64(draw.Intn(2000))}
	}
	for range 1 + draw.Intn(6) {
		p := part(draw.Intn(len(s.nodes)+1)-1, draw.Intn(9), draw.Intn(9), few(), few())
		if draw.Intn(2) == 0 {
			p.Target = few()
		}
		s.parts = append(s.parts, p)
	}
	return s
}

// drawnList are nodes, mostly a list that may be.
func drawnList(draw *rand.Rand, nodes int) []int {
	if draw.Intn(12) == 0 {
		list := make([]int, draw.Intn(8))
		for i := range list {
			list[i] = draw.Intn(nodes+2) - 1
		}
		return list
	}
	return set(1 + draw.Intn(1<<nodes-1)).list()
}

// drawn is a command about the edges of what an image has, mostly one that may be.
func drawn(draw *rand.Rand, m *Image) api.Cmd {
	nodes, parts, _ := m.Counts()
	c := api.Cmd{Kind: 1 + draw.Intn(5), Node: draw.Intn(nodes), Part: draw.Intn(parts), List: drawnList(draw, nodes)}
	if c.Kind == api.CBlock && draw.Intn(2) == 0 {
		c.Kind = api.CIsr
	}
	p, _ := m.Part(c.Part)
	switch {
	case c.Kind == api.CJoin:
		_, time, _ := m.Node(c.Node)
		c.Epoch = time + draw.Intn(4) - 1
	case c.Kind == api.CIsr && p.Leader >= 0 && draw.Intn(8) > 0:
		c.Node, c.Epoch, c.Version = p.Leader, p.Epoch, p.Version
		if draw.Intn(4) > 0 {
			c.List = (set(draw.Intn(1<<nodes)) | 1<<p.Leader).list()
		}
	default:
		c.Epoch, c.Version = p.Epoch, p.Version
	}
	switch draw.Intn(60) {
	case 0:
		c.Kind = draw.Intn(9) - 1
	case 1:
		c.Node = draw.Intn(nodes+2) - 1
	case 2:
		c.Part = draw.Intn(parts+2) - 1
	case 3:
		c.Epoch += draw.Intn(3) - 1
	case 4:
		c.Version += draw.Intn(3) - 1
	}
	return c
}

// wantAsModel holds an image against the model at a drawn command; of which kind that was, and what the answer.
func wantAsModel(t *testing.T, draw *rand.Rand, m *Image, x *model) (int, api.Errno) {
	t.Helper()
	c, before, count := drawn(draw, m), textOf(m), countOf(m)
	got, want := m.Apply(c), x.apply(c)
	if after := textOf(m); got != want || after != x.text() || countOf(m) != count+1 {
		t.Fatalf("Apply(%+v) = %d, want %d, of\n%s\nmade\n%s\nwant\n%s", c, got, want, before, after, x.text())
	}
	return c.Kind, got
}

// TestDrawnBehindRead: the words hold, too, where the image isn't one that commands have made.
func TestDrawnBehindRead(t *testing.T) {
	draw := rand.New(rand.NewSource(14))
	for range 2000 {
		s := drawnShape(draw)
		m, x := readFrom(t, s.lay(uint64(len(s.nodes)), uint64(len(s.parts)))), modelOf(s)
		for range 12 {
			wantAsModel(t, draw, m, x)
		}
	}
}

// TestDrawn: whatever is applied, the image tells what the chapter's words make of it.
func TestDrawn(t *testing.T) {
	draw := rand.New(rand.NewSource(13))
	seen := map[[2]int]int{} // by kind and answer
	for range 300 {
		nodes, parts := 1+draw.Intn(5), 1+draw.Intn(6)
		copies := 1 + draw.Intn(nodes)
		m, x := newImage(t, nodes, parts, copies), newModel(nodes, parts, copies)
		for range 200 {
			kind, e := wantAsModel(t, draw, m, x)
			seen[[2]int{kind, int(e)}]++
		}
	}
	for kind, answers := range map[int][]api.Errno{
		api.CJoin:  {api.OK, api.ErrArg, api.ErrState},
		api.CFence: {api.OK, api.ErrArg, api.ErrNone},
		api.CIsr:   {api.OK, api.ErrArg, api.ErrLeader, api.ErrState},
		api.CMove:  {api.OK, api.ErrArg, api.ErrBusy},
		api.CBlock: {api.OK, api.ErrArg},
	} {
		for _, e := range answers {
			if n := seen[[2]int{kind, int(e)}]; n < 100 {
				t.Errorf("kind %d was answered %d only %d times", kind, e, n)
			}
		}
	}
}

// P13.5.

// ledger is what was seen of an image so far.
type ledger struct {
	epochs  []int
	leaders []map[int]int // of each partition, by Epoch
	blocks  map[uint64]int
}

// note holds an image against what was seen of it, and takes note of it.
func (l *ledger) note(t *testing.T, m *Image) {
	t.Helper()
	nodes, parts, _ := m.Counts()
	for k := range parts {
		p, _ := m.Part(k)
		if len(l.leaders) <= k {
			l.epochs, l.leaders = append(l.epochs, 0), append(l.leaders, map[int]int{})
		}
		if p.Epoch < l.epochs[k] {
			t.Fatalf("Part(%d): the Epoch fell from %d to %d", k, l.epochs[k], p.Epoch)
		}
		l.epochs[k] = p.Epoch
		if p.Leader < 0 {
			continue
		}
		if there, _, _ := m.Node(p.Leader); !there || !slices.Contains(p.Isr, p.Leader) {
			t.Fatalf("Part(%d) = %+v: the leader isn't in sync, or isn't there (%v)", k, p, there)
		}
		if other, ok := l.leaders[k][p.Epoch]; ok && other != p.Leader {
			t.Fatalf("Part(%d): %d and %d led in the Epoch %d", k, other, p.Leader, p.Epoch)
		}
		l.leaders[k][p.Epoch] = p.Leader
	}
	for n := range nodes {
		_, _, first := m.Node(n)
		if first == 0 {
			continue
		}
		for number := first; number < first+10; number++ {
			if other, ok := l.blocks[number]; ok && other != n {
				t.Fatalf("%d and %d have the number %d", n, other, number)
			}
			l.blocks[number] = n
		}
		if next, _ := m.Pids(); next < first+10 || first+9 > 1000 {
			t.Fatalf("the block from %d on, but the next number is %d", first, next)
		}
	}
}

func TestPromisesOfAll(t *testing.T) {
	draw := rand.New(rand.NewSource(17))
	elected := 0
	for range 200 {
		nodes, parts := 1+draw.Intn(5), 1+draw.Intn(6)
		copies := 1 + draw.Intn(nodes)
		one, two := newImage(t, nodes, parts, copies), newImage(t, nodes, parts, copies)
		seen := &ledger{blocks: map[uint64]int{}}
		for range 300 {
			c := drawn(draw, one)
			seen.note(t, one)
			if a, b := one.Apply(c), two.Apply(c); a != b || !bytes.Equal(bytesOf(t, one), bytesOf(t, two)) {
				t.Fatalf("two that had the same commands differ behind %+v: %d, %d", c, a, b)
			}
		}
		seen.note(t, one)
		for _, epochs := range seen.leaders {
			elected += len(epochs)
		}
	}
	if elected < 1000 {
		t.Errorf("only %d leaders were elected", elected)
	}
}
