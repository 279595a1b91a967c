package image

import (
	"bytes"
	"math"
	"math/rand"
	"slices"
	"testing"

	"penstock/api"
	"penstock/codec"
)

// P13.4: Bytes, Read.

// shape is an image as it is laid, whether there may be such a one or not.
type shape struct {
	nodes []node
	parts []api.Part
	next  uint64
	count int
}

// lay writes a shape down, with counts that may be others than there are.
func (s shape) lay(nodes, parts uint64) []byte {
	w := codec.NewWriter()
	w.Uint(nodes)
	for _, x := range s.nodes {
		w.Flag(x.there)
		w.Int(x.time)
		w.Uint(x.block)
	}
	w.Uint(parts)
	for _, p := range s.parts {
		for _, n := range []int{p.Leader, p.Epoch, p.Version} {
			w.Int(n)
		}
		for _, list := range [][]int{p.Isr, p.Replicas, p.Target} {
			w.Ints(list)
		}
	}
	w.Uint(s.next)
	w.Int(s.count)
	text, _ := w.Out()
	return text
}

// plain are the bytes of two nodes, and of two partitions, one of which moves; with something turned.
func plain(turn func(s *shape)) []byte {
	s := shape{
		nodes: []node{{true, 4, 0}, {false, 3, 11}},
		parts: []api.Part{
			part(0, 5, 6, []int{0, 1}, []int{0, 1}),
			moving(part(-1, 7, 8, []int{1}, []int{1}), 0),
		},
		next:  21,
		count: 9,
	}
	turn(&s)
	return s.lay(uint64(len(s.nodes)), uint64(len(s.parts)))
}

func asItIs(*shape) {}

func TestBytes(t *testing.T) {
	m := newImage(t, 1, 1, 1)
	want := []byte{1, 0, 0, 0, 1, 1, 0, 0, 1, 0, 1, 0, 0, 1, 0}
	if got := bytesOf(t, m); !bytes.Equal(got, want) {
		t.Errorf("Bytes() = %d, want %d", got, want)
	}

	m = newImage(t, 3, 2, 2)
	done(t, m, join(1, 1), fence(1), block(0), block(1), join(2, 70), move(1, 0, 2))
	want = []byte{3, 0, 0, 1, 0, 2, 11, 1, 140, 1, 0, 2, 1, 4, 0, 2, 0, 2, 2, 0, 2, 0, 4, 6, 0, 2, 2, 4, 2, 2, 4, 2, 0, 4, 21, 12}
	if got := bytesOf(t, m); !bytes.Equal(got, want) {
		t.Errorf("Bytes() = %d, want %d", got, want)
	}
}

func TestRead(t *testing.T) {
	m := readFrom(t, plain(asItIs))
	if a, b, c := m.Counts(); a != 2 || b != 2 || c != 9 {
		t.Errorf("Counts() = %d, %d, %d", a, b, c)
	}
	wantNode(t, "Read", m, 0, true, 4, 0)
	wantNode(t, "Read", m, 1, false, 3, 11)
	wantPart(t, "Read", m, 0, part(0, 5, 6, []int{0, 1}, []int{0, 1}))
	wantPart(t, "Read", m, 1, moving(part(-1, 7, 8, []int{1}, []int{1}), 0))
	wantPids(t, "Read", m, 21, 980)
	if got := bytesOf(t, m); !bytes.Equal(got, plain(asItIs)) {
		t.Errorf("Bytes() = %d, want %d", got, plain(asItIs))
	}
}

// TestReadUpToTheEdges: what may stand there just so.
func TestReadUpToTheEdges(t *testing.T) {
	for what, turn := range map[string]func(s *shape){
		"next 1":                  func(s *shape) { s.next = 1 },
		"next 1001":               func(s *shape) { s.next = 1001 },
		"Count 0":                 func(s *shape) { s.count = 0 },
		"the greatest Count":      func(s *shape) { s.count = math.MaxInt },
		"Leader -1":               func(s *shape) { s.parts[0].Leader = -1 },
		"the last Leader":         func(s *shape) { s.parts[0].Leader = 1 },
		"a Leader not in Isr":     func(s *shape) { s.parts[1].Leader = 0 },
		"a Leader not there":      func(s *shape) { s.parts[1].Leader = 1 },
		"Epoch 0":                 func(s *shape) { s.parts[0].Epoch = 0 },
		"the greatest Epoch":      func(s *shape) { s.parts[0].Epoch = math.MaxInt },
		"Version 0":               func(s *shape) { s.parts[0].Version = 0 },
		"the greatest Version":    func(s *shape) { s.parts[0].Version = math.MaxInt },
		"Isr beside Replicas":     func(s *shape) { s.parts[1].Isr = []int{0} },
		"a Target of all":         func(s *shape) { s.parts[1].Target = []int{0, 1} },
		"a Target within Isr":     func(s *shape) { s.parts[1].Target = []int{1} },
		"no Target":               func(s *shape) { s.parts[1].Target = nil },
		"a time below 0":          func(s *shape) { s.nodes[0].time = math.MinInt },
		"the greatest time":       func(s *shape) { s.nodes[0].time = math.MaxInt },
		"the greatest block":      func(s *shape) { s.nodes[0].block = math.MaxUint64 },
		"two that have a block":   func(s *shape) { s.nodes[0].block = 11 },
		"a block that is ahead":   func(s *shape) { s.nodes[0].block = 21 },
		"five nodes":              func(s *shape) { s.nodes = append(s.nodes, make([]node, 3)...) },
		"six partitions":          func(s *shape) { s.parts = slices.Repeat(s.parts, 3) },
		"one partition":           func(s *shape) { s.parts = s.parts[:1] },
		"one node":                func(s *shape) { s.nodes, s.parts = s.nodes[:1], []api.Part{part(0, 0, 0, []int{0}, []int{0})} },
		"a node that isn't there": func(s *shape) { s.nodes[0].there = false },
	} {
		text := plain(turn)
		m, e := Read(text)
		if e != api.OK {
			t.Errorf("%s: Read = %d", what, e)
			continue
		}
		if got := bytesOf(t, m); !bytes.Equal(got, text) {
			t.Errorf("%s: %d was read as %d", what, text, got)
		}
	}
}

func wantUnread(t *testing.T, what string, text []byte, want api.Errno) {
	t.Helper()
	if m, e := Read(text); m != nil || e != want {
		t.Errorf("%s: Read(%d) = %v, %d, want %d", what, text, m, e, want)
	}
}

// malformed are shapes that may not be.
func malformed() map[string]func(s *shape) {
	list := map[string]func(s *shape){
		"no node":      func(s *shape) { s.nodes = nil },
		"no partition": func(s *shape) { s.parts = nil },
		"neither":      func(s *shape) { s.nodes, s.parts = nil, nil },
		"next 0":       func(s *shape) { s.next = 0 },
		"next 1002":    func(s *shape) { s.next = 1002 },
		"next 2^64-1":  func(s *shape) { s.next = math.MaxUint64 },
		"Count -1":     func(s *shape) { s.count = -1 },
		"Count -2^63":  func(s *shape) { s.count = math.MinInt },
	}
	numbers := map[string]func(p *api.Part){
		"Leader -2":     func(p *api.Part) { p.Leader = -2 },
		"Leader 2":      func(p *api.Part) { p.Leader = 2 },
		"Leader -2^63":  func(p *api.Part) { p.Leader = math.MinInt },
		"Leader 2^63-1": func(p *api.Part) { p.Leader = math.MaxInt },
		"Epoch -1":      func(p *api.Part) { p.Epoch = -1 },
		"Epoch -2^63":   func(p *api.Part) { p.Epoch = math.MinInt },
		"Version -1":    func(p *api.Part) { p.Version = -1 },
		"Version -2^63": func(p *api.Part) { p.Version = math.MinInt },
		"no Isr":        func(p *api.Part) { p.Isr = nil },
		"no Replicas":   func(p *api.Part) { p.Replicas = nil },
	}
	wrong := map[string][]int{
		"falling": {1, 0}, "twice": {0, 0}, "twice 1": {0, 1, 1}, "below": {-1}, "below, and 0": {-1, 0},
		"2": {2}, "0 and 2": {0, 2}, "far": {math.MaxInt}, "far below": {math.MinInt, 1}, "many": make([]int, 4096),
	}
	for what, nodes := range wrong {
		numbers["Isr "+what] = func(p *api.Part) { p.Isr = nodes }
		numbers["Replicas "+what] = func(p *api.Part) { p.Replicas = nodes }
		numbers["Target "+what] = func(p *api.Part) { p.Target = nodes }
	}
	for what, turn := range numbers {
		list["first, "+what] = func(s *shape) { turn(&s.parts[0]) }
		list["last, "+what] = func(s *shape) { turn(&s.parts[1]) }
	}
	return list
}

// TestReadOfWrongForms: ErrForm, but behind layer 3's error.
func TestReadOfWrongForms(t *testing.T) {
	for what, turn := range malformed() {
		text := plain(turn)
		wantUnread(t, what, text, api.ErrForm)
		wantUnread(t, what+", a byte less", text[:len(text)-1], api.ErrEnd)
		wantUnread(t, what+", a byte more", append(text, 0), api.ErrEnd)
	}
}

func TestReadOfWrongBytes(t *testing.T) {
	wantUnread(t, "nil", nil, api.ErrEnd)
	wantUnread(t, "empty", []byte{}, api.ErrEnd)
	text := plain(asItIs)
	for size := range text {
		wantUnread(t, "cut", text[:size], api.ErrEnd)
	}
	wantUnread(t, "a byte more", append(bytes.Clone(text), 0), api.ErrEnd)
	wantUnread(t, "twice", append(bytes.Clone(text), text...), api.ErrEnd)
	// None of plain's numbers has a second byte, so each place is a number.
	for at := range text {
		long := slices.Replace(bytes.Clone(text), at, at+1, text[at]|128, 0)
		wantUnread(t, "not the shortest form", long, api.ErrForm)
	}
	for _, at := range []int{1, 4} {
		flag := bytes.Clone(text)
		flag[at] = 2
		wantUnread(t, "no flag", flag, api.ErrForm)
	}
	for _, turn := range []func(p *api.Part){
		func(p *api.Part) { p.Isr = make([]int, 4097) },
		func(p *api.Part) { p.Replicas = make([]int, 4097) },
		func(p *api.Part) { p.Target = make([]int, 4097) },
	} {
		wantUnread(t, "too many", plain(func(s *shape) { turn(&s.parts[1]) }), api.ErrLong)
	}
}

// TestReadOfTooMany: more than 5 nodes, or 6 partitions, are read as none, so what is behind the count is read as if it came next.
func TestReadOfTooMany(t *testing.T) {
	one := []api.Part{part(-1, 0, 0, []int{0}, []int{0})}
	for _, nodes := range []uint64{6, 7, 127, 4096, 4097, math.MaxUint64} {
		// Without nodes it ends where it should, and has none.
		wantUnread(t, "too many nodes", shape{parts: one, next: 1}.lay(nodes, 1), api.ErrForm)
		wantUnread(t, "too many nodes", shape{next: 1}.lay(nodes, 0), api.ErrForm)
		wantUnread(t, "too many nodes", shape{next: 1}.lay(nodes, 7), api.ErrForm)
		// The first node is read as no partition, 3 as the next number, and 0 as the count.
		wantUnread(t, "too many nodes", []byte(append(uintOf(nodes), 0, 3, 0)), api.ErrForm)
		wantUnread(t, "too many nodes", []byte(append(uintOf(nodes), 0, 3)), api.ErrEnd)
		wantUnread(t, "too many nodes", shape{nodes: make([]node, 6), parts: one, next: 1}.lay(nodes, 1), api.ErrEnd)
	}
	for _, parts := range []uint64{7, 8, 127, 4096, 4097, math.MaxUint64} {
		wantUnread(t, "too many partitions", shape{nodes: make([]node, 1), next: 1}.lay(1, parts), api.ErrForm)
		wantUnread(t, "too many partitions", shape{nodes: make([]node, 1), parts: slices.Repeat(one, 7), next: 1}.lay(1, parts), api.ErrEnd)
	}
	wantUnread(t, "six nodes", plain(func(s *shape) { s.nodes = make([]node, 6) }), api.ErrEnd)
	wantUnread(t, "seven partitions", plain(func(s *shape) { s.parts = slices.Repeat(s.parts[:1], 7) }), api.ErrEnd)
}

func uintOf(n uint64) []byte {
	w := codec.NewWriter()
	w.Uint(n)
	text, _ := w.Out()
	return text
}

// TestReadGoesOn: behind each of many commands the image that is read goes on as the one that was written.
func TestReadGoesOn(t *testing.T) {
	draw := rand.New(rand.NewSource(3))
	for range 60 {
		nodes, parts := 1+draw.Intn(5), 1+draw.Intn(6)
		m := newImage(t, nodes, parts, 1+draw.Intn(nodes))
		for range 150 {
			text := bytesOf(t, m)
			x := readFrom(t, text)
			if again := bytesOf(t, x); !bytes.Equal(again, text) || textOf(x) != textOf(m) || countOf(x) != countOf(m) {
				t.Fatalf("\n%s\nwas read as\n%s", textOf(m), textOf(x))
			}
			c := drawn(draw, m)
			if got, want := x.Apply(c), m.Apply(c); got != want || textOf(x) != textOf(m) {
				t.Fatalf("behind Read: Apply(%+v) = %d, want %d:\n%s\nwant\n%s", c, got, want, textOf(x), textOf(m))
			}
		}
	}
}

// TestReadDrawn: bytes with something turned are refused, or read in the one form that they have; and whatever was read, commands don't panic.
func TestReadDrawn(t *testing.T) {
	draw := rand.New(rand.NewSource(5))
	read := 0
	for range 40000 {
		text := plain(asItIs)
		for range 1 + draw.Intn(3) {
			text[draw.Intn(len(text))] = byte(draw.Intn(20))
		}
		if draw.Intn(4) == 0 {
			text = text[:draw.Intn(len(text))]
		}
		if wantReadInOneForm(t, draw, text) {
			read++
		}
	}
	if read < 1000 {
		t.Errorf("only %d were read", read)
	}
}

func wantReadInOneForm(t *testing.T, draw *rand.Rand, text []byte) bool {
	t.Helper()
	m, e := Read(text)
	if e != api.OK {
		if m != nil {
			t.Errorf("Read(%d) = %v, %d", text, m, e)
		}
		return false
	}
	if again := bytesOf(t, m); !bytes.Equal(again, text) {
		t.Errorf("%d was read as %d", text, again)
	}
	for range 20 {
		m.Apply(drawn(draw, m))
	}
	return true
}

func FuzzRead(f *testing.F) {
	f.Add(plain(asItIs))
	f.Fuzz(func(t *testing.T, text []byte) { wantReadInOneForm(t, rand.New(rand.NewSource(1)), text) })
}

// TestReadOfALeaderThatIsntInSync: no commands make one, but it may be read; it is gone on with by the words.
func TestReadOfALeaderThatIsntInSync(t *testing.T) {
	odd := func() *Image {
		return readFrom(t, plain(func(s *shape) {
			s.nodes[1].there = true
			s.parts[1].Leader = 0
		}))
	}
	target := moving(part(0, 7, 8, []int{1}, []int{1}), 0)
	m := done(t, odd(), fence(0))
	wantPart(t, "it isn't in Isr", m, 1, target)
	m = done(t, odd(), join(1, 4))
	wantPart(t, "somebody leads", m, 1, target)
	m = done(t, odd(), join(0, 5))
	target.Leader, target.Epoch = 1, 8
	wantPart(t, "it leads", m, 1, target)
}

// TestSumsGoRound: behind the greatest Epoch, Version and Count comes the least one.
func TestSumsGoRound(t *testing.T) {
	m := readFrom(t, plain(func(s *shape) {
		s.parts[0].Epoch, s.parts[0].Version, s.count = math.MaxInt, math.MaxInt, math.MaxInt
		s.nodes[1].there = true
	}))
	done(t, m, fence(0))
	wantPart(t, "CFence", m, 0, part(1, math.MinInt, math.MinInt, []int{1}, []int{0, 1}))
	if got := countOf(m); got != math.MinInt {
		t.Errorf("Count = %d", got)
	}
}
