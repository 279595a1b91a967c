package replica

import (
	"fmt"
	"math/rand"
	"slices"
	"testing"

	"penstock/api"
	"penstock/batch"
	"penstock/disk"
	"penstock/epochs"
	"penstock/prod"
)

// model is a replica by the chapter's words: it keeps what happened, and works out all else anew at each question.
type model struct {
	me, epoch, high, beginning int
	leads                      bool
	log                        []api.Batch
	isr, askedFor              []int
	past                       []happening // since it leads
}

// happening is a tick (while these were in sync), or that a node asked.
type happening struct {
	tick         bool
	isr          []int
	node, offset int
	fresh        bool
}

func newModel(me int) *model {
	return &model{me: me, epoch: -1}
}

// again is the model behind a break.
func (m *model) again() {
	log := m.log
	*m = *newModel(m.me)
	m.log = log
}

func (m *model) end() int {
	if len(m.log) == 0 {
		return 0
	}
	return endOf(m.log[len(m.log)-1])
}

// table is what layer 9 knows by the first batches.
func (m *model) table(n int) *prod.Table {
	table := prod.New()
	for _, b := range m.log[:n] {
		table.Apply(b)
	}
	return table
}

// endOfEpoch is as layer 10 knows it by the log.
func (m *model) endOfEpoch(epoch int) (int, int, bool) {
	cache := epochs.New()
	for _, b := range m.log {
		cache.Assign(b.Epoch, b.Base)
	}
	return cache.End(epoch, m.end())
}

// asked is the last offset from which a node has asked; -1: it hasn't.
func (m *model) asked(n int) int {
	last := -1
	for _, h := range m.past {
		if !h.tick && h.node == n {
			last = h.offset
		}
	}
	return last
}

// age is a node's, and whether it is counted.
func (m *model) age(n int) (int, bool) {
	age, counted, asked := 0, false, false
	for _, h := range m.past {
		switch {
		case h.tick && counted && (asked || slices.Contains(h.isr, n)):
			age++
		case h.tick && slices.Contains(h.isr, n):
			counted = true
		case !h.tick && h.node == n:
			if h.fresh {
				age = 0
			}
			asked, counted = true, true
		}
	}
	return age, counted
}

func (m *model) rise() {
	least := m.end()
	for _, n := range slices.Concat(m.isr, m.askedFor) {
		if n != m.me {
			least = min(least, m.asked(n))
		}
	}
	m.high = max(m.high, least)
}

func (m *model) Lead(epoch int, isr []int) api.Errno {
	if epoch <= m.epoch {
		return api.ErrLeader
	}
	m.epoch, m.leads, m.isr, m.askedFor, m.past, m.beginning = epoch, true, slices.Clone(isr), nil, nil, m.end()
	m.rise()
	return api.OK
}

func (m *model) Follow(epoch int) api.Errno {
	if epoch <= m.epoch {
		return api.ErrLeader
	}
	m.epoch, m.leads = epoch, false
	return api.OK
}

func (m *model) Sync(epoch int, isr []int) api.Errno {
	if !m.leads || epoch != m.epoch {
		return api.ErrLeader
	}
	m.isr, m.askedFor = slices.Clone(isr), nil
	m.rise()
	return api.OK
}

func (m *model) Produce(b api.Batch) (int, api.Errno) {
	if !m.leads {
		return 0, api.ErrLeader
	}
	b.Base, b.Epoch = 0, 0
	table := m.table(len(m.log))
	base, again, e := table.Check(b)
	if e != api.OK {
		return 0, e
	}
	if again {
		return base, api.OK
	}
	if epoch, _, open, known := table.Known(b.Pid); b.Control && known && epoch == b.PEpoch && open < 0 {
		return m.end() - 1, api.OK
	}
	b.Base, b.Epoch = m.end(), m.epoch
	m.log = append(m.log, b)
	m.rise()
	return b.Base, api.OK
}

func (m *model) Need() (api.FetchReq, bool) {
	if m.leads || m.epoch < 0 {
		return api.FetchReq{}, false
	}
	return asking(m.epoch, m.me, m.end(), m.lastEpoch()), true
}

func (m *model) lastEpoch() int {
	if len(m.log) == 0 {
		return -1
	}
	return m.log[len(m.log)-1].Epoch
}

func (m *model) Fetch(q api.FetchReq) api.FetchReply {
	a := api.FetchReply{Epoch: m.epoch}
	if !m.leads || q.Part != 0 || q.Epoch != m.epoch || q.Node == m.me || !slices.Contains(everybody(), q.Node) {
		a.E = api.ErrLeader
		return a
	}
	if q.Offset < 0 || q.LastEpoch < -1 {
		a.E = api.ErrOffset
		return a
	}
	epoch, end, ok := m.endOfEpoch(q.LastEpoch)
	if q.Offset > 0 && (!ok || epoch != q.LastEpoch || end < q.Offset) {
		if !ok {
			epoch, end = -1, 0
		}
		return diverging(m.epoch, epoch, end, q.Offset, q.LastEpoch)
	}
	m.past = append(m.past, happening{node: q.Node, offset: q.Offset, fresh: q.Offset >= m.end()})
	m.rise()
	a.High = m.high
	for _, b := range m.log {
		if endOf(b) > q.Offset && len(a.Batches) < 8 {
			a.Batches = append(a.Batches, b)
		}
	}
	return a
}

func (m *model) Accept(a api.FetchReply) api.Errno {
	if m.leads || a.Epoch != m.epoch || a.Part != 0 {
		return api.ErrLeader
	}
	if a.E != api.OK {
		return a.E
	}
	if a.Diverges {
		return m.cut(a)
	}
	for _, b := range a.Batches {
		if b.Base < m.end() {
			continue
		}
		if e := batch.Check(b); e != api.OK {
			return e
		}
		if b.Base > m.end() {
			return api.ErrOffset
		}
		m.log = append(m.log, b)
	}
	m.high = max(m.high, min(a.High, m.end()))
	return api.OK
}

func (m *model) cut(a api.FetchReply) api.Errno {
	if a.Offset != m.end() || a.LastEpoch != m.lastEpoch() {
		return api.ErrOffset
	}
	to := 0
	if _, end, ok := m.endOfEpoch(a.EndEpoch); ok {
		to = max(0, min(a.End, end))
	}
	if to < m.high {
		return api.ErrOffset
	}
	m.log = m.log[:m.upTo(to)]
	return api.OK
}

// upTo is how many batches end up to an offset.
func (m *model) upTo(to int) int {
	n := 0
	for n < len(m.log) && endOf(m.log[n]) <= to {
		n++
	}
	return n
}

func (m *model) Tick() {
	if m.leads {
		m.past = append(m.past, happening{tick: true, isr: m.isr})
	}
}

func (m *model) Asked(list []int) {
	if m.leads {
		m.askedFor = slices.Concat(m.askedFor, list)
	}
}

func (m *model) Want(replicas []int) ([]int, bool) {
	if !m.leads {
		return nil, false
	}
	var list []int
	for _, n := range everybody() {
		age, counted := m.age(n)
		slow := counted && age >= 6
		switch {
		case n == m.me:
			list = append(list, n)
		case !slices.Contains(replicas, n) || slow:
		case slices.Contains(m.isr, n):
			list = append(list, n)
		case m.asked(n) >= 0 && m.asked(n) >= m.high && m.asked(n) >= m.beginning:
			list = append(list, n)
		}
	}
	isr := slices.Clone(m.isr)
	slices.Sort(isr)
	return list, !slices.Equal(list, slices.Compact(isr)) || len(m.askedFor) > 0
}

func (m *model) Ready() bool {
	return m.leads && m.high >= m.beginning
}

func (m *model) Stable() int {
	if first, open := m.table(m.upTo(m.high)).Unstable(); open {
		return first
	}
	return m.high
}

func (m *model) Committed(from, n int) ([]api.Batch, []api.Abort, int) {
	var list []api.Batch
	for _, b := range m.log {
		if n > 0 && endOf(b) > from {
			n--
			if endOf(b) <= m.Stable() {
				list = append(list, b)
			}
		}
	}
	if len(list) == 0 {
		return nil, nil, m.Stable()
	}
	return list, m.table(len(m.log)).Aborts(list[0].Base, endOf(list[len(list)-1])), m.Stable()
}

func (m *model) Log() []api.Batch        { return m.log }
func (m *model) Role() (int, bool)       { return m.epoch, m.leads }
func (m *model) Marks() (a, b, c, d int) { return 0, m.end(), m.high, m.Stable() }

// drawer draws arguments, most of them near those that do something.
type drawer struct {
	*rand.Rand
	m *model
}

func (d drawer) rarely() bool { return d.Intn(12) == 0 }

// near is a number, or rarely one about it.
func (d drawer) near(n int) int {
	if d.rarely() {
		return n + d.Intn(5) - 2
	}
	return n
}

func (d drawer) nodes() []int {
	var list []int
	for range d.Intn(4) {
		list = append(list, d.Intn(3))
	}
	if d.rarely() {
		list = append(list, d.Intn(9)-2)
	}
	return list
}

func (d drawer) values() [][]byte {
	var list [][]byte
	for range 1 + d.Intn(3) {
		list = append(list, []byte{byte('a' + d.Intn(26))})
	}
	if d.rarely() {
		return nil
	}
	return list
}

func (d drawer) batch() api.Batch {
	b := api.Batch{Base: d.Intn(9) - 2, Epoch: d.Intn(9) - 2, Pid: uint64(d.Intn(4)), Values: d.values()}
	if b.Pid == 0 {
		return b
	}
	epoch, next, _, _ := d.m.table(len(d.m.log)).Known(b.Pid)
	b.PEpoch, b.Txn = d.near(epoch), d.Intn(4) > 0
	if b.Txn && d.Intn(3) == 0 {
		b.Control, b.Commit, b.Values = true, d.Intn(2) == 0, nil
		return b
	}
	b.Seq = d.near(next)
	if b.PEpoch != epoch {
		b.Seq = 0
	}
	if old := d.m.log; len(old) > 0 && d.Intn(6) == 0 {
		return old[max(len(old)-1-d.Intn(8), 0)]
	}
	return b
}

func (d drawer) request() api.FetchReq {
	q := asking(d.near(d.m.epoch), d.Intn(4), max(d.m.end()-d.Intn(4), 0), -1)
	if n := d.m.upTo(q.Offset); n > 0 {
		q.LastEpoch = d.m.log[n-1].Epoch
	}
	q.LastEpoch, q.Offset = d.near(q.LastEpoch), d.near(q.Offset)
	if d.rarely() {
		q.Part, q.Node = d.Intn(3)-1, d.Intn(9)-2
	}
	return q
}

func (d drawer) reply() api.FetchReply {
	a := answer(d.near(d.m.epoch), d.m.end()+d.Intn(5)-3)
	if d.rarely() {
		a.Part, a.E = d.Intn(3)-1, api.Errno(d.Intn(3))
	}
	if d.Intn(3) == 0 {
		x := diverging(a.Epoch, d.near(d.m.lastEpoch()), d.m.end()-d.Intn(4), d.near(d.m.end()), d.near(d.m.lastEpoch()))
		x.High, x.Part, x.E = a.High, a.Part, a.E
		return x
	}
	base, epoch := max(d.m.end()-d.Intn(3), 0), max(d.m.lastEpoch(), 0)
	for range d.Intn(5) {
		b := d.batch()
		b.Base, b.Epoch = d.near(base), max(d.near(epoch), -1)
		a.Batches = append(a.Batches, b)
		base, epoch = endOf(b), max(b.Epoch, 0)
	}
	return a
}

// step does one drawn call of both, and answers what it was, and what they answered.
func (d drawer) step(r *Replica, m *model) (string, any, any) {
	two := func(base int, e api.Errno) string { return fmt.Sprint(base, " ", e) }
	epoch, isr := d.near(m.epoch), d.nodes()
	switch x := d.Intn(100); {
	case x < 4:
		return fmt.Sprintf("Lead(%d, %d)", epoch+1, isr), r.Lead(epoch+1, isr), m.Lead(epoch+1, isr)
	case x < 8:
		return fmt.Sprintf("Follow(%d)", epoch+1), r.Follow(epoch + 1), m.Follow(epoch + 1)
	case x < 14:
		return fmt.Sprintf("Sync(%d, %d)", epoch, isr), r.Sync(epoch, isr), m.Sync(epoch, isr)
	case x < 34:
		b := d.batch()
		return fmt.Sprintf("Produce(%+v)", b), two(r.Produce(b)), two(m.Produce(b))
	case x < 58:
		q := d.request()
		return fmt.Sprintf("Fetch(%+v)", q), r.Fetch(q), m.Fetch(q)
	case x < 78:
		a := d.reply()
		return fmt.Sprintf("Accept(%+v)", a), r.Accept(a), m.Accept(a)
	case x < 82:
		r.Asked(isr)
		m.Asked(isr)
		return fmt.Sprintf("Asked(%d)", isr), nil, nil
	default:
		r.Tick()
		m.Tick()
		return "Tick()", nil, nil
	}
}

// TestDrawnCalls holds replicas, which are sometimes opened again behind a break, against the model.
func TestDrawnCalls(t *testing.T) {
	t.Parallel()
	for seed := range int64(100) {
		m := newModel(int(seed % 3))
		d := drawer{rand.New(rand.NewSource(seed)), m}
		x := disk.New()
		r := openOn(t, x, 0, m.me)
		for i := range 120 {
			if d.Intn(60) == 0 {
				x.Crash(d.Int())
				r = openOn(t, x, 0, m.me)
				m.again()
			}
			what, got, want := d.step(r, m)
			what = fmt.Sprintf("seed %d, call %d: %s", seed, i, what)
			same(t, what, got, want)
			if a, b := view(r), view(m); a != b {
				t.Errorf("%s leaves\n%s\nwant\n%s", what, a, b)
			}
			if t.Failed() {
				return
			}
		}
	}
}
