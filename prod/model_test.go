package prod

import (
	"math"
	"math/rand"
	"slices"
	"testing"

	"penstock/api"
	"penstock/batch"
)

// texts are n values.
func texts(n int) [][]byte {
	var list [][]byte
	for i := range n {
		list = append(list, []byte{byte(i)})
	}
	return list
}

// data is a batch of n values that is of no transaction, and inTxn one that is.
func data(base int, pid uint64, epoch, seq, n int) api.Batch {
	return api.Batch{Base: base, Pid: pid, PEpoch: epoch, Seq: seq, Values: texts(n)}
}

func inTxn(base int, pid uint64, epoch, seq, n int) api.Batch {
	b := data(base, pid, epoch, seq, n)
	b.Txn = true
	return b
}

// commits and aborts are markers.
func commits(base int, pid uint64, epoch int) api.Batch {
	return api.Batch{Base: base, Pid: pid, PEpoch: epoch, Txn: true, Control: true, Commit: true}
}

func aborts(base int, pid uint64, epoch int) api.Batch {
	return api.Batch{Base: base, Pid: pid, PEpoch: epoch, Txn: true, Control: true}
}

// tableOf knows what these batches say.
func tableOf(list ...api.Batch) *Table {
	p := New()
	for _, b := range list {
		p.Apply(b)
	}
	return p
}

// answer is what Check tells.
type answer struct {
	base  int
	again bool
	e     api.Errno
}

func (t *Table) answer(b api.Batch) answer {
	base, again, e := t.Check(b)
	return answer{base, again, e}
}

func wantCheck(t *testing.T, what string, p *Table, b api.Batch, want answer) {
	t.Helper()
	if got := p.answer(b); got != want {
		t.Errorf("%s: Check(%+v) = %+v, want %+v", what, b, got, want)
	}
}

// The answers without an offset.
var (
	fine   = answer{}
	fenced = answer{e: api.ErrFenced}
	seq    = answer{e: api.ErrSeq}
)

func again(base int) answer {
	return answer{base: base, again: true}
}

// known is what Known tells.
type known struct {
	epoch, next, first int
	ok                 bool
}

func (t *Table) known(pid uint64) known {
	epoch, next, first, ok := t.Known(pid)
	return known{epoch, next, first, ok}
}

func wantKnown(t *testing.T, what string, p *Table, pid uint64, epoch, next, first int) {
	t.Helper()
	if got, want := p.known(pid), (known{epoch, next, first, true}); got != want {
		t.Errorf("%s: Known(%d) = %+v, want %+v", what, pid, got, want)
	}
}

func wantUnstable(t *testing.T, what string, p *Table, first int, open bool) {
	t.Helper()
	if got, ok := p.Unstable(); got != first || ok != open {
		t.Errorf("%s: Unstable() = %d, %v, want %d, %v", what, got, ok, first, open)
	}
}

func wantAborts(t *testing.T, what string, p *Table, from, to int, want ...api.Abort) {
	t.Helper()
	if got := p.Aborts(from, to); !slices.Equal(got, want) {
		t.Errorf("%s: Aborts(%d, %d) = %+v, want %+v", what, from, to, got, want)
	}
}

func wantPids(t *testing.T, what string, p *Table, want ...uint64) {
	t.Helper()
	if got := p.Pids(); !slices.Equal(got, want) {
		t.Errorf("%s: Pids() = %d, want %d", what, got, want)
	}
}

// model is a table by the chapter's words, in the plainest way: all that was applied, gone through anew at each question.
type model struct{ log []api.Batch }

// of is what was applied of a producer.
func (m *model) of(pid uint64) []api.Batch {
	var list []api.Batch
	for _, b := range m.log {
		if b.Pid == pid && pid != 0 {
			list = append(list, b)
		}
	}
	return list
}

// epoch is a producer's, and batches are those of records that came since it is that.
func (m *model) epoch(pid uint64) (int, bool) {
	list := m.of(pid)
	if len(list) == 0 {
		return 0, false
	}
	greatest := list[0].PEpoch
	for _, b := range list {
		greatest = max(greatest, b.PEpoch)
	}
	return greatest, true
}

func (m *model) batches(pid uint64) []api.Batch {
	list := m.of(pid)
	epoch, _ := m.epoch(pid)
	since := slices.IndexFunc(list, func(b api.Batch) bool { return b.PEpoch == epoch })
	if since < 0 {
		return nil
	}
	return slices.DeleteFunc(slices.Clone(list[since:]), func(b api.Batch) bool { return b.Control })
}

func (m *model) next(pid uint64) int {
	list := m.batches(pid)
	if len(list) == 0 {
		return 0
	}
	b := list[len(list)-1]
	return b.Seq + len(b.Values)
}

// transaction is the open one of a producer: where it begins.
func (m *model) transaction(list []api.Batch) (int, bool) {
	first, open := 0, false
	for _, b := range list {
		if b.Control {
			first, open = 0, false
		} else if b.Txn && !open {
			first, open = b.Base, true
		}
	}
	return first, open
}

func (m *model) check(b api.Batch) answer {
	if e := batch.Check(b); e != api.OK {
		return answer{e: e}
	}
	if b.Pid == 0 {
		return fine
	}
	epoch, ok := m.epoch(b.Pid)
	if ok && epoch > b.PEpoch {
		return fenced
	}
	if b.Control {
		return fine
	}
	next, list := 0, []api.Batch(nil)
	if ok && epoch == b.PEpoch {
		next, list = m.next(b.Pid), m.batches(b.Pid)
	}
	for _, x := range list[max(0, len(list)-5):] {
		if x.Seq == b.Seq && len(x.Values) == len(b.Values) {
			return again(x.Base)
		}
	}
	if b.Seq == next {
		return fine
	}
	return seq
}

func (m *model) known(pid uint64) known {
	epoch, ok := m.epoch(pid)
	if !ok {
		return known{}
	}
	first, open := m.transaction(m.of(pid))
	if !open {
		first = -1
	}
	return known{epoch, m.next(pid), first, true}
}

func (m *model) pids() []uint64 {
	var list []uint64
	for _, b := range m.log {
		if b.Pid != 0 {
			list = append(list, b.Pid)
		}
	}
	slices.Sort(list)
	return slices.Compact(list)
}

func (m *model) unstable() (int, bool) {
	var list []int
	for _, pid := range m.pids() {
		if first, open := m.transaction(m.of(pid)); open {
			list = append(list, first)
		}
	}
	if len(list) == 0 {
		return 0, false
	}
	return slices.Min(list), true
}

func (m *model) aborts(from, to int) []api.Abort {
	var list []api.Abort
	for i, b := range m.log {
		ahead := model{m.log[:i]}
		first, open := ahead.transaction(ahead.of(b.Pid))
		if b.Control && !b.Commit && open && b.Base >= from && first < to {
			list = append(list, api.Abort{Pid: b.Pid, First: first, Last: b.Base})
		}
	}
	return list
}

// wantAsModel holds all that a table tells against the model, Check by these batches.
func wantAsModel(t *testing.T, p *Table, m *model, asked ...api.Batch) {
	t.Helper()
	for _, b := range asked {
		wantCheck(t, "by the model", p, b, m.check(b))
	}
	for _, pid := range append(m.pids(), 0, 999) {
		if got, want := p.known(pid), m.known(pid); got != want {
			t.Errorf("Known(%d) = %+v, want %+v", pid, got, want)
		}
	}
	first, open := m.unstable()
	wantUnstable(t, "by the model", p, first, open)
	wantAborts(t, "by the model", p, math.MinInt, math.MaxInt, m.aborts(math.MinInt, math.MaxInt)...)
	wantPids(t, "by the model", p, m.pids()...)
	if t.Failed() {
		t.Fatalf("behind %+v", m.log)
	}
}

// drawn is a batch about the edges: mostly one that may be.
func drawn(draw *rand.Rand, base, next int) api.Batch {
	b := inTxn(base, uint64(draw.Intn(4)), draw.Intn(3), max(0, next+draw.Intn(5)-2), 1+draw.Intn(3))
	b.Epoch = draw.Intn(3)
	switch draw.Intn(8) {
	case 0:
		b.Seq = 0
	case 1:
		b.Txn = false
	case 2:
		b.Control, b.Commit, b.Seq, b.Values = true, draw.Intn(2) == 0, 0, nil
	case 3:
		b.Seq = next
	}
	if b.Pid == 0 {
		b.Txn, b.PEpoch, b.Seq = false, 0, 0
	}
	return b
}

// turned has something that layer 7 refuses, mostly.
func turned(draw *rand.Rand, b api.Batch) api.Batch {
	switch draw.Intn(8) {
	case 0:
		b.Base = -1 - draw.Intn(3)
	case 1:
		b.PEpoch = []int{-1, math.MinInt, 1001, math.MaxInt}[draw.Intn(4)]
	case 2:
		b.Seq = []int{-1, math.MinInt, math.MaxInt}[draw.Intn(3)]
	case 3:
		b.Pid = []uint64{0, 1001, math.MaxUint64}[draw.Intn(3)]
	case 4:
		b.Values = [][][]byte{nil, {}, texts(17), {make([]byte, 65)}}[draw.Intn(4)]
	case 5:
		b.Txn = !b.Txn
	case 6:
		b.Control = !b.Control
	case 7:
		b.Commit = !b.Commit
	}
	return b
}

// TestDrawnUnchecked: whatever is applied, checked or not, the table tells what the chapter's words make of it.
func TestDrawnUnchecked(t *testing.T) {
	draw := rand.New(rand.NewSource(9))
	for range 400 {
		p, m := New(), &model{}
		for base := range 40 {
			b := drawn(draw, base, m.next(uint64(draw.Intn(4))))
			if draw.Intn(6) == 0 {
				b = turned(draw, b)
			}
			asked := append(slices.Clone(m.log), b, turned(draw, b), drawn(draw, base, m.next(b.Pid)))
			wantAsModel(t, p, m, asked...)
			p.Apply(b)
			m.log = append(m.log, b)
		}
		wantAsModel(t, p, m, m.log...)
		for range 20 {
			from, to := draw.Intn(42)-1, draw.Intn(42)-1
			wantAborts(t, "by the model", p, from, to, m.aborts(from, to)...)
		}
	}
}

// name is a producer and an epoch.
type name struct {
	pid   uint64
	epoch int
}

// once is what was applied of each, behind a Check that said OK and false, in its order.
type once map[name][]api.Batch

// wantTold asks for each batch again, at another place: of the latest five of a producer's epoch it is told where each stands, of all others none is taken.
func (o once) wantTold(t *testing.T, p *Table) {
	t.Helper()
	for n, list := range o {
		epoch, _, _, _ := p.Known(n.pid)
		for i, b := range list {
			base := b.Base
			b.Base, b.Epoch, b.Values = base+1000, b.Epoch+1, slices.Repeat([][]byte{{'x'}}, len(b.Values))
			switch {
			case n.epoch < epoch:
				wantCheck(t, "of an older epoch", p, b, fenced)
			case i < len(list)-5:
				wantCheck(t, "ahead of the last five", p, b, seq)
			default:
				wantCheck(t, "of the last five", p, b, again(base))
			}
		}
	}
	if t.Failed() {
		t.FailNow()
	}
}

// drawnNext is a batch of which one in two is its producer's next one, so that an epoch has many of them.
func drawnNext(draw *rand.Rand, p *Table, log []api.Batch, base int) api.Batch {
	if len(log) > 0 && draw.Intn(4) == 0 {
		return log[draw.Intn(len(log))]
	}
	pid := uint64(1 + draw.Intn(3))
	epoch, next, _, _ := p.Known(pid)
	if draw.Intn(2) == 0 {
		return inTxn(base, pid, epoch, next, 1+draw.Intn(3))
	}
	b := drawn(draw, base, next)
	if b.Pid != 0 {
		b.PEpoch = max(0, epoch+1-draw.Intn(20))
	}
	if draw.Intn(8) == 0 {
		return turned(draw, b)
	}
	return b
}

// TestOnce: P9.4.
func TestOnce(t *testing.T) {
	draw := rand.New(rand.NewSource(4))
	taken, told, longest := 0, 0, 0
	for range 100 {
		p, all, base := New(), once{}, 0
		var log []api.Batch
		for range 100 {
			b := drawnNext(draw, p, log, base)
			got := p.answer(b)
			if got.again {
				told++
			}
			if got != fine {
				continue
			}
			b.Base = base
			base += batch.Size(b)
			p.Apply(b)
			log = append(log, b)
			if b.Pid == 0 || b.Control {
				continue
			}
			n := name{b.Pid, b.PEpoch}
			if slices.ContainsFunc(all[n], func(x api.Batch) bool { return x.Seq == b.Seq }) {
				t.Fatalf("the Seq of %+v was applied before: %+v", b, all[n])
			}
			all[n] = append(all[n], b)
			taken++
			longest = max(longest, len(all[n]))
			all.wantTold(t, p)
		}
	}
	if taken < 1000 || told < 100 || longest < 10 {
		t.Errorf("only %d were applied, at most %d of an epoch, and %d told as known", taken, longest, told)
	}
}
