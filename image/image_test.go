package image

import (
	"fmt"
	"math"
	"slices"
	"testing"

	"penstock/api"
)

func TestExamples(t *testing.T) {
	m := newImage(t, 3, 2, 2)
	wantPart(t, "New", m, 1, part(-1, 0, 0, []int{1, 2}, []int{1, 2}))
	done(t, m, join(1, 1))
	wantPart(t, "CJoin", m, 0, part(1, 1, 0, []int{0, 1}, []int{0, 1}))
	wantPart(t, "CJoin", m, 1, part(1, 1, 0, []int{1, 2}, []int{1, 2}))
	done(t, m, fence(1))
	wantPart(t, "CFence", m, 0, part(-1, 2, 0, []int{0, 1}, []int{0, 1}))

	done(t, m, block(0))
	wantNode(t, "CBlock", m, 0, false, 0, 1)
	done(t, m, block(1))
	wantNode(t, "CBlock", m, 1, false, 1, 11)
}

// P13.2: New.

func TestNew(t *testing.T) {
	for nodes := 1; nodes <= 5; nodes++ {
		for parts := 1; parts <= 6; parts++ {
			for copies := 1; copies <= nodes; copies++ {
				wantBeginning(t, nodes, parts, copies)
			}
		}
	}
	wantPart(t, "counted round", newImage(t, 5, 6, 3), 3, part(-1, 0, 0, []int{0, 3, 4}, []int{0, 3, 4}))
	wantPart(t, "counted round", newImage(t, 5, 6, 3), 5, part(-1, 0, 0, []int{0, 1, 2}, []int{0, 1, 2}))
	wantPart(t, "counted round", newImage(t, 2, 6, 1), 5, part(-1, 0, 0, []int{1}, []int{1}))
}

func wantBeginning(t *testing.T, nodes, parts, copies int) {
	t.Helper()
	what := fmt.Sprintf("New(%d, %d, %d)", nodes, parts, copies)
	m := newImage(t, nodes, parts, copies)
	if a, b, c := m.Counts(); a != nodes || b != parts || c != 0 {
		t.Errorf("%s: Counts() = %d, %d, %d", what, a, b, c)
	}
	for n := range nodes {
		wantNode(t, what, m, n, false, 0, 0)
	}
	for k := range parts {
		var list []int
		for n := range nodes {
			// How far the node lies behind the first one, counted round.
			if (n-k%nodes+nodes)%nodes < copies {
				list = append(list, n)
			}
		}
		wantPart(t, what, m, k, part(-1, 0, 0, list, list))
	}
	wantPids(t, what, m, 1, 1000)
}

func TestNewOfWrongNumbers(t *testing.T) {
	wrong := [][3]int{
		{0, 1, 1}, {0, 1, 0}, {-1, 1, 1}, {-1, 1, -1}, {6, 1, 1}, {6, 6, 6}, {math.MinInt, 1, 1}, {math.MaxInt, 1, 1},
		{3, 0, 1}, {3, -1, 1}, {3, 7, 1}, {3, math.MinInt, 1}, {3, math.MaxInt, 1},
		{3, 1, 0}, {3, 1, -1}, {3, 1, 4}, {1, 1, 2}, {5, 1, 6}, {3, 1, math.MinInt}, {3, 1, math.MaxInt},
	}
	for _, x := range wrong {
		if m, e := New(x[0], x[1], x[2]); m != nil || e != api.ErrArg {
			t.Errorf("New(%d) = %v, %d, want ErrArg", x, m, e)
		}
	}
}

// P13.4: Node, Part, Pids, Counts.

func TestNodesAndPartsThatThereArent(t *testing.T) {
	for _, m := range []*Image{here(t, 3, 2, 2), here(t, 5, 6, 5), here(t, 1, 1, 1)} {
		nodes, parts, _ := m.Counts()
		for n := range nodes {
			done(t, m, block(n))
		}
		for _, n := range outside(nodes) {
			wantNode(t, "no node", m, n, false, 0, 0)
		}
		for _, k := range outside(parts) {
			if p, ok := m.Part(k); ok || fmt.Sprint(p) != fmt.Sprint(api.Part{}) {
				t.Errorf("Part(%d) = %+v, %v", k, p, ok)
			}
		}
	}
}

func TestCountOfAll(t *testing.T) {
	m := newImage(t, 3, 2, 2)
	list := []api.Cmd{
		join(0, 1), join(0, 1), fence(1), fence(9), isr(0, 1, 0, 0, 0), isr(0, 0, 1, 0, 1), move(0, 2), move(0, 2),
		block(0), block(-1), {}, {Kind: 6}, {Kind: api.CBlock, List: make([]int, 6)},
	}
	for i, c := range list {
		m.Apply(c)
		if got := countOf(m); got != i+1 {
			t.Errorf("behind %+v: Count = %d, want %d", c, got, i+1)
		}
	}
}

func TestNilAndZero(t *testing.T) {
	var m *Image
	for _, c := range []api.Cmd{{}, join(0, 1), fence(0), isr(0, 0, 0, 0, 0), move(0, 0), block(0)} {
		if e := m.Apply(c); e != api.ErrState {
			t.Errorf("Apply(%+v) of nil = %d", c, e)
		}
		if e := (&Image{}).Apply(c); e != api.ErrArg {
			t.Errorf("Apply(%+v) of the zero Image = %d", c, e)
		}
	}
	if text, e := m.Bytes(); len(text) != 0 || e != api.ErrState {
		t.Errorf("Bytes() of nil = %d, %d", text, e)
	}
	if text, e := (&Image{}).Bytes(); fmt.Sprint(text) != "[0 0 0 0]" || e != api.OK {
		t.Errorf("Bytes() of the zero Image = %d, %d", text, e)
	}
	for _, m := range []*Image{nil, {}} {
		if a, b, c := m.Counts(); a != 0 || b != 0 || c != 0 {
			t.Errorf("Counts() = %d, %d, %d", a, b, c)
		}
		wantPids(t, "nil or zero", m, 0, 0)
		for _, n := range append(outside(0), 1) {
			wantNode(t, "nil or zero", m, n, false, 0, 0)
			if p, ok := m.Part(n); ok || fmt.Sprint(p) != fmt.Sprint(api.Part{}) {
				t.Errorf("Part(%d) = %+v, %v", n, p, ok)
			}
		}
	}
}

// TestShareNothing: neither what is handed in nor what is answered can be reached from outside.
func TestShareNothing(t *testing.T) {
	m := here(t, 4, 1, 2)
	target := []int{1, 2, 99, 98}[:2]
	list := []int{0, 1, 99, 98}[:2]
	done(t, m, api.Cmd{Kind: api.CMove, List: target}, api.Cmd{Kind: api.CIsr, Epoch: 1, List: list})
	before := textOf(m)
	for range 2 {
		p, _ := m.Part(0)
		for _, l := range [][]int{p.Isr, p.Replicas, p.Target} {
			clear(l)
			_ = append(l, 97, 96)
		}
		text := bytesOf(t, m)
		clear(text)
		if got := fmt.Sprint(target[:4], list[:4]); got != "[1 2 99 98] [0 1 99 98]" {
			t.Fatalf("the lists handed in are %s", got)
		}
		clear(target)
		clear(list)
		if after := textOf(m); after != before {
			t.Fatalf("changed from outside:\n%s\nto\n%s", before, after)
		}
		target, list = []int{1, 2, 99, 98}[:2], []int{0, 1, 99, 98}[:2]
	}

	// Behind a move Replicas and Isr were Target: the three are lists of their own.
	done(t, m, isr(0, 0, 1, 1, 0, 1, 2))
	wantPart(t, "moved", m, 0, part(1, 2, 3, []int{1, 2}, []int{1, 2}))
	p, _ := m.Part(0)
	p.Isr[0], p.Replicas[1] = 9, 8
	wantPart(t, "moved", m, 0, part(1, 2, 3, []int{1, 2}, []int{1, 2}))
	if !slices.Equal(p.Isr, []int{9, 2}) || !slices.Equal(p.Replicas, []int{1, 8}) {
		t.Errorf("two lists of one answer share memory: %+v", p)
	}
	done(t, m, fence(1))
	wantPart(t, "fenced", m, 0, part(2, 3, 4, []int{2}, []int{1, 2}))

	text := bytesOf(t, m)
	spare := append(text, 9, 9)[:len(text)]
	x := readFrom(t, spare)
	if got := spare[:len(text)+2]; got[len(text)] != 9 || got[len(text)+1] != 9 {
		t.Errorf("Read has changed the room behind its bytes: %d", got)
	}
	clear(spare)
	if textOf(x) != textOf(m) {
		t.Errorf("what Read answers is shared:\n%s", textOf(x))
	}
}
