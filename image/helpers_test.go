package image

import (
	"fmt"
	"math"
	"testing"

	"penstock/api"
)

// The commands, by what their kinds name.
func join(n, time int) api.Cmd {
	return api.Cmd{Kind: api.CJoin, Node: n, Epoch: time}
}

func fence(n int) api.Cmd {
	return api.Cmd{Kind: api.CFence, Node: n}
}

func isr(part, n, epoch, version int, list ...int) api.Cmd {
	return api.Cmd{Kind: api.CIsr, Node: n, Part: part, Epoch: epoch, Version: version, List: list}
}

func move(part int, list ...int) api.Cmd {
	return api.Cmd{Kind: api.CMove, Part: part, List: list}
}

func block(n int) api.Cmd {
	return api.Cmd{Kind: api.CBlock, Node: n}
}

func newImage(t *testing.T, nodes, parts, copies int) *Image {
	t.Helper()
	m, e := New(nodes, parts, copies)
	if m == nil || e != api.OK {
		t.Fatalf("New(%d, %d, %d) = %v, %d", nodes, parts, copies, m, e)
	}
	return m
}

// done is an image behind commands, all of which are done.
func done(t *testing.T, m *Image, list ...api.Cmd) *Image {
	t.Helper()
	for _, c := range list {
		if e := m.Apply(c); e != api.OK {
			t.Fatalf("Apply(%+v) = %d", c, e)
		}
	}
	return m
}

// here is an image whose nodes have all come, at the time 1, from 0 on.
func here(t *testing.T, nodes, parts, copies int) *Image {
	t.Helper()
	m := newImage(t, nodes, parts, copies)
	for n := range nodes {
		done(t, m, join(n, 1))
	}
	return m
}

// textOf is all that an image tells, without its count, as a text in which a nil list and an empty one are one.
func textOf(m *Image) string {
	nodes, parts, _ := m.Counts()
	text := fmt.Sprint(nodes, parts)
	for n := range nodes {
		there, time, block := m.Node(n)
		text += fmt.Sprintf("\nnode %d: %v %d %d", n, there, time, block)
	}
	for k := range parts {
		p, ok := m.Part(k)
		text += fmt.Sprintf("\npart %d: %+v %v", k, p, ok)
	}
	next, left := m.Pids()
	return text + fmt.Sprintf("\npids: %d %d", next, left)
}

func countOf(m *Image) int {
	_, _, count := m.Counts()
	return count
}

// wantRefused: the command is refused, and changes nothing but the count.
func wantRefused(t *testing.T, what string, m *Image, c api.Cmd, want api.Errno) {
	t.Helper()
	before, count := textOf(m), countOf(m)
	if e := m.Apply(c); e != want {
		t.Errorf("%s: Apply(%+v) = %d, want %d", what, c, e, want)
	}
	if after := textOf(m); after != before {
		t.Errorf("%s: Apply(%+v) has changed\n%s\nto\n%s", what, c, before, after)
	}
	if got := countOf(m); got != count+1 {
		t.Errorf("%s: Count = %d, want %d", what, got, count+1)
	}
}

// part is one without a Target.
func part(leader, epoch, version int, isr, replicas []int) api.Part {
	return api.Part{Leader: leader, Epoch: epoch, Version: version, Isr: isr, Replicas: replicas}
}

// moving is one with a Target.
func moving(p api.Part, target ...int) api.Part {
	p.Target = target
	return p
}

func wantPart(t *testing.T, what string, m *Image, k int, want api.Part) {
	t.Helper()
	p, ok := m.Part(k)
	if got := fmt.Sprintf("%+v %v", p, ok); got != fmt.Sprintf("%+v true", want) {
		t.Errorf("%s: Part(%d) = %s, want %+v", what, k, got, want)
	}
}

func wantNode(t *testing.T, what string, m *Image, n int, there bool, time int, block uint64) {
	t.Helper()
	if a, b, c := m.Node(n); a != there || b != time || c != block {
		t.Errorf("%s: Node(%d) = %v, %d, %d, want %v, %d, %d", what, n, a, b, c, there, time, block)
	}
}

func wantPids(t *testing.T, what string, m *Image, next, left uint64) {
	t.Helper()
	if a, b := m.Pids(); a != next || b != left {
		t.Errorf("%s: Pids() = %d, %d, want %d, %d", what, a, b, next, left)
	}
}

func bytesOf(t *testing.T, m *Image) []byte {
	t.Helper()
	text, e := m.Bytes()
	if e != api.OK {
		t.Fatalf("Bytes() = %d", e)
	}
	return text
}

func readFrom(t *testing.T, text []byte) *Image {
	t.Helper()
	m, e := Read(text)
	if m == nil || e != api.OK {
		t.Fatalf("Read(%d) = %v, %d", text, m, e)
	}
	return m
}

// outside are numbers that name none of n.
func outside(n int) []int {
	return []int{-1, n, n + 1, math.MinInt, math.MaxInt}
}
