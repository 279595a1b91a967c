package node

import (
	"bytes"
	"fmt"
	"slices"
	"testing"

	"penstock/api"
	"penstock/disk"
	"penstock/image"
)

func TestOpenErrors(t *testing.T) {
	dead := disk.New()
	dead.Arm(0)
	dead.Append("x", []byte("x"))
	odd := one(2, 1)
	odd.Clients = []api.Program{{Group: 8}}
	rows := []struct {
		what string
		id   int
		c    api.Config
		d    *disk.Disk
		want api.Errno
	}{
		{"no settings", 0, api.Config{}, disk.New(), api.ErrArg},
		{"a program that may not be", 0, odd, disk.New(), api.ErrArg},
		{"settings, ahead of a nil disk", 0, api.Config{}, nil, api.ErrArg},
		{"a number below 0", -1, one(2, 1), disk.New(), api.ErrArg},
		{"a number too much", 2, one(2, 1), disk.New(), api.ErrArg},
		{"a number, ahead of a nil disk", 2, one(2, 1), nil, api.ErrArg},
		{"a number, ahead of a broken disk", 2, one(2, 1), dead, api.ErrArg},
		{"a nil disk", 1, one(2, 1), nil, api.ErrState},
		{"a broken disk", 1, one(2, 1), dead, api.ErrDead},
		{"the last number", 1, one(2, 1), disk.New(), api.OK},
		{"the most that may be", 4, one(5, 4), disk.New(), api.OK},
	}
	for _, r := range rows {
		n, e := Open(r.id, r.c, r.d)
		if e != r.want || (n == nil) == (e == api.OK) {
			t.Errorf("%s: Open = %v, %d, want %d", r.what, n, e, r.want)
		}
	}
}

// TestOpenOfSpoiltFiles: what isn't a node's can't be taken up.
func TestOpenOfSpoiltFiles(t *testing.T) {
	for _, payload := range [][]byte{{}, {0}, {9, 1}, {1}, {1, 2, 3}, {2, 2}, {2, 1, 0}, {2, 0, 6}, {3, 1, 0, 0}, {4, 6, 0, 0}, {4, 0, 0, 0}} {
		d := disk.New()
		s, e := openStore(d)
		if e != api.OK {
			t.Fatal(e)
		}
		s.file.Append(payload)
		before, _ := d.Read(fileName)
		if n, e := Open(0, one(1, 1), d); n != nil || e == api.OK {
			t.Errorf("Open behind %v = %v, %d", payload, n, e)
		}
		// Who wasn't started hasn't counted that.
		if after, _ := d.Read(fileName); !bytes.Equal(after, before) {
			t.Errorf("Open behind %v has written %v", payload, after)
		}
	}
}

// TestOpenWherever the disk breaks: an error, and whoever is opened next is started once more at least.
func TestOpenWhereverTheDiskBreaks(t *testing.T) {
	refused := 0
	for at := range 40 {
		d := disk.New()
		n := alone(t, one(1, 1), d)
		wantStarts(t, n, 1)
		d.Arm(at)
		m, e := Open(0, one(1, 1), d)
		if d.Dead() {
			refused++
			if m != nil || e != api.ErrDead {
				t.Errorf("broken behind %d bytes: Open = %v, %d", at, m, e)
			}
		}
		d.Crash(at)
		n = alone(t, one(1, 1), d)
		if _, time, _ := imageOf(t, n).Node(0); time != 2 && time != 3 {
			t.Errorf("broken behind %d bytes: it has come for the time %d", at, time)
		}
	}
	if refused < 20 {
		t.Errorf("%d times refused", refused)
	}
}

// wantStarts: by its image a node alone has come for that time.
func wantStarts(t *testing.T, n *Node, want int) {
	t.Helper()
	if there, time, _ := imageOf(t, n).Node(n.id); !there || time != want {
		t.Errorf("the node %d is there: %v, for the time %d, want %d", n.id, there, time, want)
	}
}

func TestNobody(t *testing.T) {
	for _, n := range []*Node{nil, {}} {
		if out := n.Tick(1); len(out) > 0 {
			t.Errorf("Tick = %+v", out)
		}
		for kind := range api.MReply + 2 {
			if out := n.Handle(api.Msg{Kind: kind}); len(out) > 0 {
				t.Errorf("Handle = %+v", out)
			}
		}
		if list := n.Applied(); len(list) > 0 {
			t.Errorf("Applied = %+v", list)
		}
		if text := n.Image(); len(text) > 0 {
			t.Errorf("Image = %v", text)
		}
		if log, high, leads := n.Part(0); len(log) > 0 || high != 0 || leads {
			t.Errorf("Part = %v, %d, %v", log, high, leads)
		}
		if n.Broken() {
			t.Error("Broken")
		}
	}
}

// TestExamples are the chapter's.
func TestExamples(t *testing.T) {
	n := openOn(t, 0, one(1, 1), disk.New())
	ticks(t, n, 12)
	for k := range 3 {
		wantLeads(t, n, k, true)
	}
	wantAnswer(t, "MProduce", n, api.Msg{Kind: api.MProduce, Batch: records("a")}, api.Msg{Offset: 0})
	wantAnswer(t, "MRead", n, api.Msg{Kind: api.MRead}, api.Msg{Batches: []api.Batch{at(0, 1, records("a"))}, High: 1})
}

// TestFirstImage: ahead of anything that is applied the image is layer 13's first one.
func TestFirstImage(t *testing.T) {
	n := openOn(t, 1, api.Config{Nodes: 3, Parts: 4, Copies: 2}, disk.New())
	m, _ := image.New(3, 6, 2)
	want, _ := m.Bytes()
	if got := n.Image(); !bytes.Equal(got, want) {
		t.Errorf("Image = %v, want %v", got, want)
	}
	if list := n.Applied(); len(list) > 0 {
		t.Errorf("Applied = %+v", list)
	}
}

// TestAppliedMakesTheImage: what is applied, and no more, makes the image; a new start begins from the first entry on, and adds to them.
func TestAppliedMakesTheImage(t *testing.T) {
	d := disk.New()
	var before []api.Commit
	for start := range 4 {
		n := openOn(t, 0, one(1, 2), d)
		if list := n.Applied(); len(list) > 0 {
			t.Errorf("Applied = %+v, as it is opened", list)
		}
		ticks(t, n, 12)
		wantStarts(t, n, start+1)
		list := n.Applied()
		m, _ := image.New(1, 4, 1)
		for i, c := range list {
			if c.Index != i+1 {
				t.Errorf("start %d: the entry %d has the index %d", start, i, c.Index)
			}
			if cmd, e := image.Decode(c.Data); e == api.OK {
				m.Apply(cmd)
			}
		}
		if want, _ := m.Bytes(); !bytes.Equal(n.Image(), want) {
			t.Errorf("start %d: Image = %v, want %v", start, n.Image(), want)
		}
		if len(list) <= len(before) {
			t.Fatalf("start %d: %d entries behind %d", start, len(list), len(before))
		}
		same(t, "what was applied before", list[:len(before)], before)
		before = list
	}
}

// TestPart: the log, the high watermark, who leads; nothing of others.
func TestPart(t *testing.T) {
	n := alone(t, one(1, 2), disk.New())
	asks(t, n, api.Msg{Kind: api.MProduce, Part: 1, Batch: records("a", "b")})
	asks(t, n, api.Msg{Kind: api.MProduce, Part: 1, Batch: records("c")})
	log, high, leads := n.Part(1)
	same(t, "Part(1)", fmt.Sprint(log, high, leads), fmt.Sprint([]api.Batch{at(0, 1, records("a", "b")), at(2, 1, records("c"))}, 3, true))
	log, high, leads = n.Part(0)
	same(t, "Part(0)", fmt.Sprint(len(log), high, leads), "0 0 true")
	for _, k := range []int{-1, 4, 5, 1 << 40, -1 << 62} {
		if log, high, leads := n.Part(k); len(log) > 0 || high != 0 || leads {
			t.Errorf("Part(%d) = %v, %d, %v", k, log, high, leads)
		}
	}
}

// TestNotToIt: a message to another one does nothing.
func TestNotToIt(t *testing.T) {
	n := alone(t, one(1, 1), disk.New())
	for _, to := range []int{-1, 1, 9} {
		m := api.Msg{Kind: api.MProduce, From: caller, To: to, Batch: records("a")}
		if out := n.Handle(m); len(out) > 0 {
			t.Errorf("Handle(%+v) = %+v", m, out)
		}
	}
	if log, _, _ := n.Part(0); len(log) > 0 {
		t.Errorf("it has laid %+v", log)
	}
}

// TestNotActive: ahead of its having come a node answers nothing.
func TestNotActive(t *testing.T) {
	n := openOn(t, 0, one(1, 1), disk.New())
	for kind := api.MProduce; kind <= api.MOffset; kind++ {
		for range 3 {
			if out := n.Handle(api.Msg{Kind: kind, From: caller, Batch: records("a")}); len(out) > 0 {
				t.Errorf("kind %d: %+v", kind, out)
			}
		}
	}
	ticks(t, n, 12)
	for k := range 3 {
		if log, _, _ := n.Part(k); len(log) > 0 {
			t.Errorf("it has laid %+v", log)
		}
	}
}

// TestItsOwnRequests: an answer to itself it takes at once.
func TestItsOwnRequests(t *testing.T) {
	n := alone(t, one(1, 1), disk.New())
	if out := n.Handle(api.Msg{Kind: api.MProduce, Batch: records("a")}); len(out) > 0 {
		t.Errorf("Handle = %+v", out)
	}
	if log, high, _ := n.Part(0); len(log) != 1 || high != 1 {
		t.Errorf("Part = %+v, %d", log, high)
	}
}

// session is requests to a node alone, and what was answered by OK.
func session(n *Node) []api.Msg {
	var told []api.Msg
	do := func(out []api.Msg) {
		for _, m := range out {
			if m.E == api.OK {
				told = append(told, m)
			}
		}
	}
	for i := range 8 {
		do(n.Tick(uint64(i)))
	}
	for i, m := range []api.Msg{
		{Kind: api.MProduce, Batch: records("a")},
		{Kind: api.MInit, Tx: 1, Inc: 1},
		{Kind: api.MAdd, Tx: 1, Pid: 1, Offset: 0},
		{Kind: api.MProduce, Batch: within(1, 0, 0, "b", "c")},
		{Kind: api.MEnd, Tx: 1, Pid: 1, Commit: true},
		{Kind: api.MEnd, Tx: 1, Pid: 1, Commit: true},
		{Kind: api.MJoin, Group: 2, Member: 3},
		{Kind: api.MCommit, Group: 2, Member: 3, Gen: 1, Offset: 2},
		{Kind: api.MProduce, Batch: records("d")},
	} {
		m.From, m.Corr = caller, i+1
		do(n.Handle(m))
	}
	return told
}

// TestBrokenWherever: its disk breaks behind each byte of a session: nothing is sent then, and nothing done; opened again it has all that it told.
func TestBrokenWherever(t *testing.T) {
	broken := 0
	for at := 0; ; at++ {
		d := disk.New()
		n := openOn(t, 0, one(1, 1), d)
		d.Arm(at)
		told := session(n)
		if !n.Broken() {
			break
		}
		broken++
		if out := session(n); len(out) > 0 {
			t.Errorf("broken behind %d bytes, it sends %+v", at, out)
		}
		applied, text := n.Applied(), n.Image()
		for k := range 3 {
			wantLeads(t, n, k, false)
		}
		d.Crash(at)
		// It stays so, though the disk works again.
		if out := session(n); len(out) > 0 || !n.Broken() {
			t.Errorf("broken behind %d bytes, it sends %+v behind a Crash", at, out)
		}
		same(t, "Applied of a broken node", n.Applied(), applied)
		same(t, "Image of a broken node", n.Image(), text)
		wantTold(t, alone(t, one(1, 1), d), told)
		if t.Failed() {
			t.Fatalf("broken behind %d bytes", at)
		}
	}
	if broken < 250 {
		t.Errorf("%d times broken", broken)
	}
}

// wantTold: a node has all that was told by OK in a session.
func wantTold(t *testing.T, n *Node, told []api.Msg) {
	t.Helper()
	log, _, _ := n.Part(0)
	for _, m := range told {
		switch m.Corr {
		case 1, 4, 9:
			if !slices.ContainsFunc(log, func(b api.Batch) bool { return b.Base == m.Offset && !b.Control }) {
				t.Errorf("told %+v, and it has %+v", m, log)
			}
		case 2:
			wantAnswer(t, "MInit again", n, api.Msg{Kind: api.MInit, Tx: 1, Inc: 1}, api.Msg{Pid: 1, Epoch: n.txns.laid.Tx(1).Epoch, Offset: n.txns.laid.Tx(1).Last, High: int(n.txns.laid.Tx(1).LastPid), Commit: n.txns.laid.Tx(1).Commit})
		case 6:
			wantAnswer(t, "MEnd again", n, api.Msg{Kind: api.MEnd, Tx: 1, Pid: 1, Commit: true}, api.Msg{Epoch: 2})
		case 7:
			wantAnswer(t, "MJoin again", n, api.Msg{Kind: api.MJoin, Group: 2, Member: 3}, api.Msg{Gen: 1, Members: []int{3}})
		case 8:
			wantAnswer(t, "MOffset", n, api.Msg{Kind: api.MOffset, Group: 2, Member: 3}, api.Msg{Offset: 2})
		}
	}
}

// TestNoMemoryShared: neither what it is handed nor what it answers is the node's own.
func TestNoMemoryShared(t *testing.T) {
	n := alone(t, one(1, 1), disk.New())
	spoil := func(list []api.Batch) {
		for i := range list {
			for _, v := range list[i].Values {
				for j := range v {
					v[j] = '!'
				}
			}
			list[i] = api.Batch{}
		}
	}
	b := records("abc")
	asks(t, n, api.Msg{Kind: api.MProduce, Batch: b})
	spoil([]api.Batch{b})
	spoil(asks(t, n, api.Msg{Kind: api.MRead}).Batches)
	log, _, _ := n.Part(0)
	spoil(log)
	same(t, "what is read", asks(t, n, api.Msg{Kind: api.MRead}).Batches, []api.Batch{at(0, 1, records("abc"))})

	list := []int{0}
	n.Handle(api.Msg{Kind: api.MCmd, Cmd: api.Cmd{Kind: api.CMove, Part: 0, List: list}})
	list[0] = 5
	same(t, "Replicas", partOf(t, n, 0).Replicas, []int{0})

	applied, text := fmt.Sprintf("%+v", n.Applied()), string(n.Image())
	for _, c := range n.Applied() {
		for i := range c.Data {
			c.Data[i] = 99
		}
	}
	clear(n.Image())
	same(t, "Applied", n.Applied(), applied)
	same(t, "Image", string(n.Image()), text)

	asks(t, n, api.Msg{Kind: api.MJoin, Group: 1, Member: 4}).Members[0] = 7
	wantAnswer(t, "MJoin", n, api.Msg{Kind: api.MJoin, Group: 1, Member: 4}, api.Msg{Gen: 1, Members: []int{4}})
}
