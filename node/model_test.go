package node

import (
	"fmt"
	"math/rand"
	"testing"

	"penstock/api"
	"penstock/disk"
	"penstock/group"
	"penstock/replica"
	"penstock/txn"
)

// alone0 is a node alone, by the chapter's words: partitions that it leads, and the coordinators' states, which are asked one by one.
type alone0 struct {
	t      *testing.T
	parts  []*replica.Replica
	tx     *txn.State
	gr     *group.State
	pid    uint64 // the last one that was given out
	limit  int
	open   map[int]int    // of each name, for how long its transaction has been open
	silent map[[2]int]int // of each group and member, for how long it has asked nothing
}

func newAlone0(t *testing.T, c api.Config) *alone0 {
	t.Helper()
	x := &alone0{t: t, tx: txn.New(), gr: group.New(), limit: 100, open: map[int]int{}, silent: map[[2]int]int{}}
	for _, p := range c.Clients {
		limit := 100
		for _, o := range p.Ops {
			limit += map[bool]int{true: 100, false: 10}[o.Kind == api.OPoll]
		}
		x.limit = max(x.limit, limit)
	}
	d := disk.New()
	for k := range c.Parts + 2 {
		r, e := replica.Open(d, fmt.Sprint("m", k), k, 0)
		if e != api.OK {
			t.Fatal(e)
		}
		x.parts = append(x.parts, r)
	}
	x.start(1)
	return x
}

// start lets it lead all partitions, from an epoch on, and count all ticks from 0 on.
func (x *alone0) start(epoch int) {
	for _, r := range x.parts {
		r.Lead(epoch, []int{0})
	}
	clear(x.open)
	clear(x.silent)
}

// lay lays a batch; what is no data's the coordinators take note of.
func (x *alone0) lay(k int, b api.Batch) (int, api.Errno) {
	_, before, _, _ := x.parts[k].Marks()
	base, e := x.parts[k].Produce(b)
	if _, end, _, _ := x.parts[k].Marks(); end > before && k == len(x.parts)-1 {
		x.gr.Apply(b)
	}
	return base, e
}

func (x *alone0) layTx(r api.TxRec) {
	x.t.Helper()
	text, e := txn.Encode(r)
	if e != api.OK {
		x.t.Fatal(e)
	}
	x.lay(len(x.parts)-2, records(string(text)))
	x.tx.Apply(r)
	if r.Kind == api.TInit {
		x.pid = max(x.pid, r.Pid)
	}
	if r.Kind == api.TPrep {
		delete(x.open, r.Tx)
		x.end(r.Tx)
	}
}

// end lays the markers of a transaction, and that it has ended.
func (x *alone0) end(name int) {
	x.t.Helper()
	d := x.tx.Tx(name)
	for _, k := range d.Parts {
		x.lay(k, marker(d.Pid, d.Epoch+1, d.Commit))
	}
	x.layTx(api.TxRec{Kind: api.TDone, Tx: name})
}

func (x *alone0) layGroup(r api.GrRec, b api.Batch) api.Errno {
	x.t.Helper()
	text, e := group.Encode(r)
	if e != api.OK {
		x.t.Fatal(e)
	}
	b.Values = [][]byte{text}
	_, e = x.lay(len(x.parts)-1, b)
	return e
}

// tick lets its clock go on; false: several transactions are aborted, and the chapter doesn't say in which order their markers stand.
func (x *alone0) tick() bool {
	x.t.Helper()
	aborted := 0
	for _, name := range x.tx.Names() {
		d := x.tx.Tx(name)
		if d.State != api.TxOngoing {
			continue
		}
		if x.open[name]++; x.open[name] > x.limit {
			aborted++
			x.layTx(api.TxRec{Kind: api.TPrep, Tx: name})
		}
	}
	for _, g := range x.gr.Groups() {
		_, members := x.gr.Team(g)
		for _, m := range members {
			key := [2]int{g, m}
			if x.silent[key]++; x.silent[key] > awayTicks {
				delete(x.silent, key)
				r, _, _ := x.gr.Join(g, m, false)
				x.layGroup(r, api.Batch{})
			}
		}
	}
	return aborted < 2
}

// answer is what a request is answered by, beside what every answer has.
func (x *alone0) answer(m api.Msg) api.Msg {
	x.t.Helper()
	var told api.Msg
	switch m.Kind {
	case api.MProduce, api.MRead:
		return x.ofPart(m)
	case api.MInit:
		r, lays, e := x.tx.Init(m.Tx, m.Inc, x.pid+1)
		if lays {
			x.layTx(r)
		}
		if told.E = e; e == api.OK {
			d := x.tx.Tx(m.Tx)
			told.Pid, told.Epoch, told.Offset, told.High, told.Commit = d.Pid, d.Epoch, d.Last, int(d.LastPid), d.Commit
		}
	case api.MAdd:
		r, lays, e := x.tx.Add(m.Tx, m.Pid, m.Epoch, m.Offset)
		if m.Offset >= len(x.parts) {
			lays, e = false, api.ErrArg
		}
		if lays {
			x.layTx(r)
		}
		told.E = e
	case api.MEnd:
		r, lays, e := x.tx.End(m.Tx, m.Pid, m.Epoch, m.Commit)
		if lays {
			x.layTx(r)
			e = api.ErrBusy
		}
		if told.E = e; e == api.OK {
			told.Epoch = x.tx.Tx(m.Tx).Epoch
		}
	default:
		return x.ofGroup(m)
	}
	return told
}

func (x *alone0) ofPart(m api.Msg) api.Msg {
	x.t.Helper()
	var told api.Msg
	switch {
	case m.Part < 0 || m.Part >= len(x.parts):
		told.E = api.ErrArg
	case m.Kind == api.MRead:
		told.Batches, told.Aborts, told.High = x.parts[m.Part].Committed(m.Offset, 8)
	case m.Batch.Control:
		told.E = api.ErrForm
	default:
		told.Offset, told.E = x.lay(m.Part, m.Batch)
	}
	return told
}

func (x *alone0) ofGroup(m api.Msg) api.Msg {
	x.t.Helper()
	var told api.Msg
	delete(x.silent, [2]int{m.Group, m.Member})
	switch m.Kind {
	case api.MJoin:
		r, lays, e := x.gr.Join(m.Group, m.Member, true)
		if lays {
			e = x.layGroup(r, api.Batch{})
		}
		if told.E = e; e == api.OK {
			told.Gen, told.Members = x.gr.Team(m.Group)
		}
	case api.MOffset:
		told.Offset, told.E = x.gr.Offset(m.Group, m.Part)
	default:
		r, e := x.gr.Commit(m.Group, m.Member, m.Gen, m.Part, m.Offset)
		var b api.Batch
		if m.Kind == api.MTxCommit {
			b = api.Batch{Pid: m.Pid, PEpoch: m.Epoch, Seq: m.Batch.Seq, Txn: true}
		}
		if e == api.OK {
			e = x.layGroup(r, b)
		}
		told.E = e
	}
	return told
}

// request draws one that mostly fits what is known.
func (x *alone0) request(draw *rand.Rand, count int) api.Msg {
	few := func(n int) int { return draw.Intn(n+2) - 1 }
	m := api.Msg{Kind: api.MProduce + draw.Intn(9), From: caller, Corr: count, Part: few(len(x.parts)), Offset: few(len(x.parts)), Commit: draw.Intn(2) == 0}
	if m.Kind >= api.MMarker {
		m.Kind++
	}
	m.Tx, m.Inc, m.Group, m.Member = few(2), few(3), few(2), few(2)
	if draw.Intn(30) == 0 {
		m.Tx, m.Group = 8, 8
	}
	d := x.tx.Tx(m.Tx)
	m.Pid, m.Epoch = d.Pid, d.Epoch
	if draw.Intn(4) > 0 {
		m.Inc = d.Inc
	}
	if m.Kind == api.MEnd && draw.Intn(3) == 0 {
		m.Pid, m.Epoch = d.LastPid, d.Last
	}
	m.Gen, _ = x.gr.Team(m.Group)
	if draw.Intn(8) == 0 {
		m.Pid, m.Epoch, m.Gen = uint64(draw.Intn(4)), 2*few(3), m.Gen-1
	}
	m.Batch = records(fmt.Sprint("v", count))
	if draw.Intn(2) == 0 {
		m.Batch = within(m.Pid, m.Epoch, draw.Intn(3)/2, fmt.Sprint("v", count))
	}
	if m.Kind == api.MTxCommit {
		m.Batch = api.Batch{Seq: draw.Intn(10) / 9}
	}
	if draw.Intn(30) == 0 {
		m.Batch = marker(1, 1, true)
	}
	if m.Kind == api.MRead {
		m.Offset = draw.Intn(20)
	}
	return m
}

// TestAgainstModel: of a node alone each answer comes at once, and is what the layers' functions say; so are its logs.
func TestAgainstModel(t *testing.T) {
	t.Parallel()
	seen := map[string]int{}
	for seed := range int64(150) {
		draw := rand.New(rand.NewSource(seed))
		c := drawn(draw, 1, 1)
		c.Clients = []api.Program{{Ops: make([]api.Op, draw.Intn(3))}}
		for i := range c.Clients[0].Ops {
			c.Clients[0].Ops[i].Kind = api.OCommit
			if seed%8 == 0 {
				c.Clients[0].Ops[i].Kind = api.OPoll
			}
		}
		d := disk.New()
		n, x, epoch := alone(t, c, d), newAlone0(t, c), 1
		clear := true
		for i := 0; i < 300 && clear; i++ {
			switch r := draw.Intn(200); {
			case r == 0:
				epoch++
				d.Crash(draw.Int())
				n = openOn(t, 0, c, d)
				ticks(t, n, 4)
				x.start(epoch)
				seen["start"]++
			case r < 4:
				for range draw.Intn(150) {
					ticks(t, n, 1)
					clear = x.tick() && clear
				}
			default:
				m := x.request(draw, i)
				want := x.answer(m)
				want.Kind, want.To, want.Corr, want.Inc, want.Tx = api.MReply, caller, m.Corr, m.Inc, m.Tx
				same(t, fmt.Sprintf("the answer to %+v", m), n.Handle(m), []api.Msg{want})
				seen[fmt.Sprint("E", want.E)]++
				seen[fmt.Sprint("kind ", m.Kind, " ", want.E == api.OK)]++
			}
			if t.Failed() {
				t.Fatalf("seed %d, step %d", seed, i)
			}
		}
		if !clear {
			seen["unclear"]++
			continue
		}
		for k, r := range x.parts {
			log, high, leads := n.Part(k)
			_, end, _, _ := r.Marks()
			same(t, fmt.Sprint("the partition ", k), fmt.Sprintf("%+v %d %v", log, high, leads), fmt.Sprintf("%+v %d true", r.Log(), end))
		}
	}
	for _, e := range []api.Errno{api.OK, api.ErrArg, api.ErrForm, api.ErrFenced, api.ErrSeq, api.ErrTxn, api.ErrGen, api.ErrBusy} {
		if seen[fmt.Sprint("E", e)] < 50 {
			t.Errorf("E %d: %d times", e, seen[fmt.Sprint("E", e)])
		}
	}
	for kind := api.MProduce; kind <= api.MOffset; kind++ {
		for _, ok := range []bool{true, false} {
			if what := fmt.Sprint("kind ", kind, " ", ok); seen[what] < 50 && kind != api.MMarker {
				t.Errorf("%s: %d times", what, seen[what])
			}
		}
	}
}
