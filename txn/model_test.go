package txn

import (
	"fmt"
	"math/rand"
	"slices"
	"testing"

	"penstock/api"
)

// model is a state by the chapter's words, in the plainest way: all that was applied, gone through anew at each question.
type model struct{ log []api.TxRec }

func (m *model) names() []int {
	var list []int
	for _, r := range m.log {
		if !slices.Contains(list, r.Tx) {
			list = append(list, r.Tx)
		}
	}
	slices.Sort(list)
	return list
}

func (m *model) tx(n int) api.Tx {
	x := api.Tx{Last: -1}
	in := map[int]int{} // how often a partition was added
	for _, r := range m.log {
		if r.Tx != n {
			continue
		}
		switch r.Kind {
		case api.TInit:
			x.State = api.TxEmpty
			x.Inc, x.Pid, x.Epoch = r.Inc, r.Pid, r.Epoch
			in = map[int]int{}
		case api.TAdd:
			x.State = api.TxOngoing
			for _, k := range r.Parts {
				in[k]++
			}
		case api.TPrep:
			x.State = api.TxPrepared
			x.Last, x.LastPid = x.Epoch, x.Pid
			x.Commit = r.Commit
		case api.TDone:
			x.State = api.TxComplete
			x.Epoch = x.Last + 2
			in = map[int]int{}
		}
	}
	for k := range in {
		x.Parts = append(x.Parts, k)
	}
	slices.Sort(x.Parts)
	return x
}

func (m *model) init(n, inc int, pid uint64) answer {
	x := m.tx(n)
	if n < 0 || n > 7 {
		return without(api.ErrArg)
	}
	if x.State == api.TxNone {
		if pid == 0 {
			return without(api.ErrBusy)
		}
		return record(initRec(n, inc, pid, 0))
	}
	if inc < x.Inc {
		return without(api.ErrFenced)
	}
	if x.State == api.TxPrepared {
		return without(api.ErrBusy)
	}
	if inc == x.Inc {
		return without(api.OK)
	}
	if x.State == api.TxOngoing {
		return answer{prepRec(n, false), true, api.ErrBusy}
	}
	if x.Epoch+2 < 999 {
		return record(initRec(n, inc, x.Pid, x.Epoch+2))
	}
	if pid == 0 {
		return without(api.ErrBusy)
	}
	return record(initRec(n, inc, pid, 0))
}

func (m *model) add(n int, pid uint64, epoch, part int) answer {
	x := m.tx(n)
	if n < 0 || n > 7 || part < 0 || part > 5 {
		return without(api.ErrArg)
	}
	if known := x.State != api.TxNone; !known || x.Pid != pid || x.Epoch != epoch {
		return without(api.ErrFenced)
	}
	if x.State == api.TxPrepared {
		return without(api.ErrBusy)
	}
	if epoch >= 999 {
		return without(api.ErrSpent)
	}
	if slices.Contains(x.Parts, part) {
		return without(api.OK)
	}
	return record(addRec(n, part))
}

func (m *model) end(n int, pid uint64, epoch int, commit bool) answer {
	x := m.tx(n)
	if n < 0 || n > 7 {
		return without(api.ErrArg)
	}
	if x.State == api.TxNone || x.Pid != pid {
		return without(api.ErrFenced)
	}
	if epoch == x.Last && pid == x.LastPid {
		if commit != x.Commit {
			return without(api.ErrTxn)
		}
		if x.State == api.TxPrepared {
			return without(api.ErrBusy)
		}
		return without(api.OK)
	}
	if epoch != x.Epoch {
		return without(api.ErrFenced)
	}
	if x.State != api.TxOngoing {
		return without(api.ErrTxn)
	}
	return record(prepRec(n, commit))
}

// drawn are arguments, most of them such as the state knows.
type drawn struct {
	draw             *rand.Rand
	n, inc           int
	pid              uint64
	epoch, part      int
	commit, whatever bool
}

func drawFor(draw *rand.Rand, m *model) drawn {
	d := drawn{draw: draw, n: draw.Intn(3), part: draw.Intn(6), commit: draw.Intn(2) == 0, whatever: draw.Intn(8) == 0}
	if draw.Intn(30) == 0 {
		d.n, d.part = draw.Intn(14)-3, draw.Intn(10)-2
	}
	x := m.tx(d.n)
	d.inc = x.Inc + draw.Intn(4) - 1
	d.pid, d.epoch = x.Pid, x.Epoch
	switch draw.Intn(6) {
	case 0:
		d.pid, d.epoch = x.LastPid, x.Last
	case 1:
		d.pid = uint64(draw.Intn(4))
	case 2:
		d.epoch += draw.Intn(7) - 3
	}
	return d
}

// any is a record that nobody has answered.
func (d drawn) any() api.TxRec {
	epochs := []int{-1, 0, 1, 2, 4, 10, 995, 996, 997, 998, 999, 1000}
	r := api.TxRec{Kind: d.draw.Intn(7) - 1, Tx: d.n, Inc: d.inc, Pid: uint64(d.draw.Intn(4)), Commit: d.commit}
	r.Epoch = epochs[d.draw.Intn(len(epochs))]
	for range d.draw.Intn(4) {
		r.Parts = append(r.Parts, d.draw.Intn(8)-1)
	}
	return r
}

// TestDrawn: records, answered or not, are applied, and each call answers as the model.
func TestDrawn(t *testing.T) {
	draw := rand.New(rand.NewSource(15))
	seen := map[api.Errno]int{}
	for range 2000 {
		s, m := New(), &model{}
		wild := draw.Intn(2) == 0
		for range 40 {
			d := drawFor(draw, m)
			free := uint64(draw.Intn(4))
			calls := []struct {
				what      string
				got, want answer
			}{
				{"Init", told(s.Init(d.n, d.inc, free)), m.init(d.n, d.inc, free)},
				{"Add", told(s.Add(d.n, d.pid, d.epoch, d.part)), m.add(d.n, d.pid, d.epoch, d.part)},
				{"End", told(s.End(d.n, d.pid, d.epoch, d.commit)), m.end(d.n, d.pid, d.epoch, d.commit)},
			}
			for _, c := range calls {
				seen[c.want.e]++
				if !c.got.same(c.want) {
					t.Fatalf("behind %+v: %s (%+v, free %d) = %+v, want %+v", m.log, c.what, d, free, c.got, c.want)
				}
			}
			r := doneRec(d.n)
			if chosen := calls[draw.Intn(3)].got; chosen.ok {
				r = chosen.r
			} else if wild && d.whatever {
				r = d.any()
			} else if m.tx(d.n).State != api.TxPrepared {
				continue
			}
			s.Apply(r)
			m.log = append(m.log, r)
			if got, want := fmt.Sprint(s.Names(), s.Tx(d.n)), fmt.Sprint(m.names(), m.tx(d.n)); got != want {
				t.Fatalf("behind %+v: %s, want %s", m.log, got, want)
			}
		}
	}
	for _, e := range []api.Errno{api.OK, api.ErrArg, api.ErrFenced, api.ErrBusy, api.ErrTxn, api.ErrSpent} {
		if seen[e] < 100 {
			t.Errorf("the error %d was seen %d times only", e, seen[e])
		}
	}
}

// fate is how an end was decided.
type fate struct{ commit, over bool }

// transaction names one.
type transaction struct {
	n     int
	pid   uint64
	epoch int
}

// run is a coordinator of which whatever is answered is applied, or lost; with what P15.4 promises of it.
type run struct {
	t     *testing.T
	draw  *rand.Rand
	s     *State
	ended map[transaction]fate
	last  map[uint64]int // the epoch of a producer's last transaction
	free  uint64
	count int
}

// apply applies a record that was answered, and notes what it decides.
func (r *run) apply(rec api.TxRec) {
	before := r.s.Tx(rec.Tx)
	key := transaction{rec.Tx, before.Pid, before.Epoch}
	switch rec.Kind {
	case api.TAdd:
		if last, any := r.last[key.pid]; before.State != api.TxOngoing && any && last >= key.epoch {
			r.t.Fatalf("the epoch %d of the producer %d comes behind %d", key.epoch, key.pid, last)
		}
		r.last[key.pid] = key.epoch
	case api.TPrep:
		if f, any := r.ended[key]; any {
			r.t.Fatalf("%+v has ended by %+v, and ends again", key, f)
		}
		r.ended[key] = fate{commit: rec.Commit}
		r.count++
	case api.TDone:
		key.epoch = before.Last
		r.ended[key] = fate{before.Commit, true}
	}
	r.s.Apply(rec)
}

// ask is one call, of the producer that is known or of a late one.
func (r *run) ask() answer {
	n := r.draw.Intn(2)
	x := r.s.Tx(n)
	pid, epoch := x.Pid, x.Epoch
	if r.draw.Intn(4) == 0 {
		pid, epoch = x.LastPid, x.Last-2*r.draw.Intn(2)
	}
	switch r.draw.Intn(7) {
	case 0:
		pid := uint64(0)
		if r.draw.Intn(3) > 0 {
			r.free++
			pid = r.free
		}
		return told(r.s.Init(n, x.Inc+r.draw.Intn(3)-1, pid))
	case 1, 2, 3:
		return told(r.s.Add(n, pid, epoch, r.draw.Intn(6)))
	case 4, 5:
		return r.askEnd(transaction{n, pid, epoch}, r.draw.Intn(2) == 0)
	}
	if x.State == api.TxPrepared {
		return record(doneRec(n))
	}
	return without(api.OK)
}

// askEnd holds the answer against what was decided.
func (r *run) askEnd(key transaction, commit bool) answer {
	a := told(r.s.End(key.n, key.pid, key.epoch, commit))
	f, decided := r.ended[key]
	if a.e == api.OK && !a.ok && !(decided && f.commit == commit && f.over) {
		r.t.Fatalf("End of %+v by %v is OK; decided: %v, %+v", key, commit, decided, f)
	}
	if decided && (a.ok || a.e == api.ErrTxn && f.commit == commit || a.e == api.ErrBusy && f.commit != commit) {
		r.t.Fatalf("End of %+v by %v = %+v; it was decided: %+v", key, commit, a, f)
	}
	return a
}

// TestLateOnesAreFenced is P15.4.
func TestLateOnesAreFenced(t *testing.T) {
	draw := rand.New(rand.NewSource(154))
	ends, most := 0, 0
	for range 30 {
		r := &run{t: t, draw: draw, s: New(), ended: map[transaction]fate{}, last: map[uint64]int{}}
		for range 40000 {
			if a := r.ask(); a.ok && draw.Intn(5) > 0 {
				r.apply(a.r)
			}
		}
		ends += r.count
		for _, epoch := range r.last {
			most = max(most, epoch)
		}
		if len(r.last) < 4 {
			t.Errorf("two names have had %d producers only", len(r.last))
		}
	}
	// So the end of a producer's epochs was come to.
	if ends < 10000 || most != 998 {
		t.Errorf("%d transactions have ended; the greatest epoch was %d", ends, most)
	}
}
