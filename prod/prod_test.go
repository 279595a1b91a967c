package prod

import (
	"bytes"
	"math"
	"math/rand"
	"slices"
	"testing"

	"penstock/api"
	"penstock/batch"
)

func TestExamples(t *testing.T) {
	p := New()
	wantCheck(t, "Seq 0", p, data(10, 1, 0, 0, 2), fine)
	p.Apply(data(10, 1, 0, 0, 2))
	wantCheck(t, "Seq 2", p, data(12, 1, 0, 2, 1), fine)
	p.Apply(data(12, 1, 0, 2, 1))
	wantCheck(t, "Seq 2 again", p, data(13, 1, 0, 2, 1), again(12))
	wantCheck(t, "Seq 5", p, data(13, 1, 0, 5, 1), seq)
	wantCheck(t, "PEpoch 1, Seq 0", p, data(13, 1, 1, 0, 1), fine)
	wantCheck(t, "not yet applied", p, data(13, 1, 0, 3, 1), fine)
	p.Apply(data(13, 1, 1, 0, 1))
	wantCheck(t, "PEpoch 0", p, data(14, 1, 0, 3, 1), fenced)

	p = tableOf(inTxn(4, 1, 0, 0, 3), aborts(7, 1, 0))
	wantAborts(t, "the second example", p, 0, 9, api.Abort{Pid: 1, First: 4, Last: 7})
	wantUnstable(t, "the second example", p, 0, false)
}

// P9.2: Check.

// refused are batches that layer 7 refuses, of a producer 7 whose epoch 3 is known, each with an older epoch, or a Seq that doesn't come next.
func refused() map[string]api.Batch {
	return map[string]api.Batch{
		"Base -1":                    data(-1, 7, 2, 5, 1),
		"Epoch -1":                   {Epoch: -1, Pid: 7, PEpoch: 2, Seq: 5, Values: texts(1)},
		"PEpoch -1":                  data(0, 7, -1, 5, 1),
		"Seq -1":                     data(0, 7, 2, -1, 1),
		"PEpoch 1001":                data(0, 7, 1001, 0, 1),
		"Pid 1001":                   data(0, 1001, 0, 0, 1),
		"the greatest Pid":           data(0, math.MaxUint64, 0, 0, 1),
		"no values":                  data(0, 7, 2, 5, 0),
		"the zero batch":             {},
		"Commit":                     {Pid: 7, PEpoch: 2, Commit: true, Values: texts(1)},
		"Txn without a producer":     inTxn(0, 0, 0, 0, 1),
		"PEpoch without a producer":  data(0, 0, 1, 0, 1),
		"Seq without a producer":     data(0, 0, 0, 1, 1),
		"a marker with values":       {Pid: 7, PEpoch: 2, Txn: true, Control: true, Values: texts(1)},
		"a marker without Txn":       {Pid: 7, PEpoch: 2, Control: true},
		"a marker with a Seq":        {Pid: 7, PEpoch: 2, Txn: true, Control: true, Seq: 1},
		"a marker, no producer":      {Txn: true, Control: true},
		"17 values":                  data(0, 7, 2, 5, 17),
		"65 bytes":                   {Pid: 7, PEpoch: 2, Values: [][]byte{make([]byte, 65)}},
		"17 values, and no producer": data(0, 0, 0, 0, 17),
		"Seq -1 of a greater epoch":  data(0, 7, 4, -1, 1),
		"no values, a greater epoch": data(0, 7, 4, 0, 0),
		"17 values, Seq is next":     data(0, 7, 3, 2, 17),
	}
}

func TestCheckRefusesByLayer7(t *testing.T) {
	p := tableOf(data(0, 7, 3, 0, 2))
	seen := map[api.Errno]int{}
	for what, b := range refused() {
		e := batch.Check(b)
		if e == api.OK {
			t.Errorf("%s: layer 7 takes it", what)
		}
		seen[e]++
		wantCheck(t, what, p, b, answer{e: e})
		wantCheck(t, what, New(), b, answer{e: e})
	}
	for _, e := range []api.Errno{api.ErrArg, api.ErrForm, api.ErrLong} {
		if seen[e] == 0 {
			t.Errorf("none is refused with %d", e)
		}
	}
}

func TestWithoutAProducer(t *testing.T) {
	p := New()
	none := data(3, 0, 0, 0, 2)
	for range 3 {
		wantCheck(t, "without a producer", p, none, fine)
		p.Apply(none)
	}
	for what, b := range map[string]api.Batch{
		"Txn":     inTxn(0, 0, 3, 4, 2),
		"aborts":  aborts(4, 0, 3),
		"commits": commits(4, 0, 3),
		"nothing": {},
	} {
		p.Apply(b)
		wantPids(t, what, p)
		wantUnstable(t, what, p, 0, false)
		wantAborts(t, what, p, 0, 9)
		if got := p.known(0); got != (known{}) {
			t.Errorf("%s: Known(0) = %+v", what, got)
		}
	}
	wantCheck(t, "still", p, none, fine)
}

func TestFirstBatchOfAProducer(t *testing.T) {
	for _, epoch := range []int{0, 1, 500, 1000} {
		for _, pid := range []uint64{1, 2, 999, 1000} {
			p := tableOf(data(0, 5, 3, 0, 2))
			wantCheck(t, "Seq 0", p, data(2, pid, epoch, 0, 1), fine)
			wantCheck(t, "Seq 0, in a transaction", p, inTxn(2, pid, epoch, 0, 1), fine)
			for _, n := range []int{1, 2, 16, math.MaxInt} {
				wantCheck(t, "another Seq", p, data(2, pid, epoch, n, 1), seq)
				wantCheck(t, "another Seq, in a transaction", p, inTxn(2, pid, epoch, n, 1), seq)
			}
			wantCheck(t, "a marker", p, aborts(2, pid, epoch), fine)
			wantCheck(t, "a marker", p, commits(2, pid, epoch), fine)
			p.Apply(data(2, pid, epoch, 0, 3))
			wantKnown(t, "its first batch", p, pid, epoch, 3, -1)
		}
	}
}

func TestEpochsOfAProducer(t *testing.T) {
	// Its epoch is 5; the next Seq is 3.
	p := tableOf(data(10, 7, 5, 0, 2), data(12, 7, 5, 2, 1))
	for _, x := range []struct {
		what string
		b    api.Batch
		want answer
	}{
		{"older, Seq 0", data(13, 7, 4, 0, 1), fenced},
		{"older, Seq 0, as many values", data(13, 7, 4, 0, 2), fenced},
		{"older, the next Seq", data(13, 7, 4, 3, 1), fenced},
		{"older, another Seq", data(13, 7, 4, 9, 1), fenced},
		{"older, a last one again", data(13, 7, 4, 2, 1), fenced},
		{"the oldest", data(13, 7, 0, 0, 1), fenced},
		{"older, aborts", aborts(13, 7, 4), fenced},
		{"older, commits", commits(13, 7, 4), fenced},
		{"the same, Seq 0, as many values", data(13, 7, 5, 0, 2), again(10)},
		{"the same, Seq 0, others", data(13, 7, 5, 0, 1), seq},
		{"the same, the next Seq", data(13, 7, 5, 3, 1), fine},
		{"the same, the next Seq, in a transaction", inTxn(13, 7, 5, 3, 16), fine},
		{"the same, one behind the next Seq", data(13, 7, 5, 4, 1), seq},
		{"the same, one ahead of the next Seq", data(13, 7, 5, 2, 2), seq},
		{"the same, within the first batch", data(13, 7, 5, 1, 1), seq},
		{"the same, aborts", aborts(13, 7, 5), fine},
		{"the same, commits", commits(13, 7, 5), fine},
		{"greater, Seq 0", data(13, 7, 6, 0, 1), fine},
		{"greater, Seq 0, as many values", data(13, 7, 6, 0, 2), fine},
		{"greater, the next Seq", data(13, 7, 6, 3, 1), seq},
		{"greater, a last one again", data(13, 7, 6, 2, 1), seq},
		{"the greatest, Seq 0", data(13, 7, 1000, 0, 1), fine},
		{"the greatest, Seq 1", data(13, 7, 1000, 1, 1), seq},
		{"greater, aborts", aborts(13, 7, 6), fine},
		{"greater, commits", commits(13, 7, 6), fine},
		{"another producer, Seq 0", data(13, 8, 0, 0, 2), fine},
		{"another producer, Seq 3", data(13, 8, 5, 3, 1), seq},
		{"another producer, aborts", aborts(13, 8, 0), fine},
	} {
		wantCheck(t, x.what, p, x.b, x.want)
	}
	// None of these was applied.
	wantKnown(t, "checked alone", p, 7, 5, 3, -1)
	wantPids(t, "checked alone", p, 7)
}

// TestEpochRises: a greater epoch, of data or of a marker, begins with Seq 0, and knows none of the last batches.
func TestEpochRises(t *testing.T) {
	for what, b := range map[string]api.Batch{"aborts": aborts(2, 7, 6), "commits": commits(2, 7, 6)} {
		p := tableOf(data(0, 7, 5, 0, 2), b)
		wantKnown(t, what, p, 7, 6, 0, -1)
		wantCheck(t, what, p, data(3, 7, 5, 2, 1), fenced)
		wantCheck(t, what, p, data(3, 7, 6, 2, 1), seq)
		wantCheck(t, what, p, data(3, 7, 6, 0, 2), fine)
		wantCheck(t, what, p, aborts(3, 7, 5), fenced)
	}
	p := tableOf(data(0, 7, 5, 0, 2), data(2, 7, 5, 2, 2), data(4, 7, 6, 0, 1))
	wantKnown(t, "data", p, 7, 6, 1, -1)
	wantCheck(t, "data, of the epoch before", p, data(5, 7, 6, 2, 2), seq)
	wantCheck(t, "data, of the epoch before", p, data(5, 7, 6, 0, 2), seq)
	wantCheck(t, "data, again", p, data(5, 7, 6, 0, 1), again(4))
	wantCheck(t, "data, the next one", p, data(5, 7, 6, 1, 1), fine)
	// Of a marker of the same epoch all goes on.
	p = tableOf(data(0, 7, 5, 0, 2), commits(2, 7, 5))
	wantKnown(t, "the same epoch", p, 7, 5, 2, -1)
	wantCheck(t, "the same epoch, again", p, data(3, 7, 5, 0, 2), again(0))
	wantCheck(t, "the same epoch, the next one", p, data(3, 7, 5, 2, 1), fine)
}

// P9.2: the last five.

func TestLastFive(t *testing.T) {
	for many := range 13 {
		p, base, n := New(), 100, 0
		var log []api.Batch
		for i := range many {
			b := data(base, 7, 0, n, 1+i%3)
			wantCheck(t, "the next one", p, b, fine)
			p.Apply(b)
			log = append(log, b)
			base, n = base+10, n+1+i%3
			// Neither markers nor other producers' batches count.
			p.Apply(commits(base-1, 7, 0))
			p.Apply(data(base-2, 8, 0, i, 1))
			p.Apply(data(base-2, 0, 0, 0, 1))
		}
		for i, b := range log {
			want := again(b.Base)
			if i < many-5 {
				want = seq
			}
			wantCheck(t, "again", p, b, want)
			other := b
			other.Base, other.Epoch, other.Txn, other.Values = 0, 9, true, make([][]byte, len(b.Values))
			wantCheck(t, "again, at another place", p, other, want)
			for _, wrong := range []int{len(b.Values) + 1, len(b.Values) + 2, 16} {
				wantCheck(t, "with more values", p, data(b.Base, 7, 0, b.Seq, wrong), seq)
			}
			if len(b.Values) > 1 {
				wantCheck(t, "with less values", p, data(b.Base, 7, 0, b.Seq, 1), seq)
			}
		}
		if many > 0 {
			wantKnown(t, "the next one", p, 7, 0, n, -1)
		}
	}
}

// TestSeveralOfOneSeq: only unchecked batches can be so.
func TestSeveralOfOneSeq(t *testing.T) {
	p := tableOf(data(30, 7, 0, 4, 2), data(20, 7, 0, 4, 2), data(10, 7, 0, 4, 1), data(5, 7, 0, 4, 2), data(2, 7, 0, 4, 3))
	wantCheck(t, "the first of three", p, data(9, 7, 0, 4, 2), again(30))
	wantCheck(t, "with one value", p, data(9, 7, 0, 4, 1), again(10))
	wantCheck(t, "with three values", p, data(9, 7, 0, 4, 3), again(2))
	wantCheck(t, "with four", p, data(9, 7, 0, 4, 4), seq)
	p.Apply(data(40, 7, 0, 0, 4))
	wantCheck(t, "the first is gone", p, data(9, 7, 0, 4, 2), again(20))
	wantCheck(t, "the next one, and none of these", p, data(9, 7, 0, 4, 4), fine)
	// One that is known again is told as such, if it would come next, too.
	wantCheck(t, "known, and next", p, data(9, 7, 0, 4, 3), again(2))
	p.Apply(data(50, 7, 0, 9, 1))
	wantCheck(t, "the second is gone", p, data(9, 7, 0, 4, 2), again(5))
}

// P9.1: Apply.

// TestApplyUnchecked: what stands in the log is taken as it is.
func TestApplyUnchecked(t *testing.T) {
	p := tableOf(data(0, 7, 2, 30, 3))
	wantKnown(t, "a first Seq above 0", p, 7, 2, 33, -1)
	p.Apply(data(3, 7, 2, 50, 1))
	wantKnown(t, "a gap", p, 7, 2, 51, -1)
	p.Apply(data(4, 7, 2, 50, 1))
	wantKnown(t, "the same Seq", p, 7, 2, 51, -1)
	p.Apply(data(5, 7, 1, 8, 2))
	wantKnown(t, "an older epoch", p, 7, 2, 10, -1)
	wantCheck(t, "an older epoch, again", p, data(6, 7, 2, 8, 2), again(5))
	p.Apply(inTxn(7, 7, 1, 10, 1))
	wantKnown(t, "an older epoch, in a transaction", p, 7, 2, 11, 7)
	p.Apply(aborts(8, 7, 0))
	wantKnown(t, "an older epoch's marker", p, 7, 2, 11, -1)
	wantAborts(t, "an older epoch's marker", p, 0, 9, api.Abort{Pid: 7, First: 7, Last: 8})
	p.Apply(data(9, 7, 4, 6, 1))
	wantKnown(t, "a greater epoch, not from 0 on", p, 7, 4, 7, -1)
	wantCheck(t, "a greater epoch, Seq 0", p, data(10, 7, 4, 0, 1), seq)
}

func TestApplyOfWhatLayer7Refuses(t *testing.T) {
	for what, x := range map[string]struct {
		b    api.Batch
		want known
	}{
		"the greatest Pid":      {data(0, math.MaxUint64, 2, 1, 1), known{2, 2, -1, true}},
		"Pid 1001":              {data(0, 1001, 2, 1, 1), known{2, 2, -1, true}},
		"PEpoch -1":             {data(0, 7, -1, 1, 1), known{-1, 2, -1, true}},
		"the least PEpoch":      {data(0, 7, math.MinInt, 1, 1), known{math.MinInt, 2, -1, true}},
		"the greatest PEpoch":   {data(0, 7, math.MaxInt, 1, 1), known{math.MaxInt, 2, -1, true}},
		"Seq -1":                {data(0, 7, 2, -1, 3), known{2, 2, -1, true}},
		"the greatest Seq":      {data(0, 7, 2, math.MaxInt, 2), known{2, math.MinInt + 1, -1, true}},
		"no values":             {data(0, 7, 2, 4, 0), known{2, 4, -1, true}},
		"17 values":             {data(0, 7, 2, 4, 17), known{2, 21, -1, true}},
		"another with Commit":   {api.Batch{Pid: 7, Commit: true, Values: texts(2)}, known{0, 2, -1, true}},
		"Base -5":               {inTxn(-5, 7, 2, 0, 1), known{2, 1, -5, true}},
		"a marker with values":  {api.Batch{Pid: 7, Txn: true, Control: true, Values: texts(4)}, known{0, 0, -1, true}},
		"a marker without Txn":  {api.Batch{Pid: 7, Control: true}, known{0, 0, -1, true}},
		"a marker with a Seq":   {api.Batch{Pid: 7, Txn: true, Control: true, Seq: 4}, known{0, 0, -1, true}},
		"a marker of PEpoch -1": {aborts(3, 7, -1), known{-1, 0, -1, true}},
	} {
		p := tableOf(x.b)
		if got := p.known(x.b.Pid); got != x.want {
			t.Errorf("%s: Known = %+v, want %+v", what, got, x.want)
		}
		wantPids(t, what, p, x.b.Pid)
		wantAsModel(t, p, &model{[]api.Batch{x.b}}, x.b)
	}
	// A marker is one by Control alone.
	p := tableOf(inTxn(3, 7, 0, 0, 2), api.Batch{Base: 5, Pid: 7, Seq: 9, Control: true, Values: texts(2)})
	wantKnown(t, "a marker with values", p, 7, 0, 2, -1)
	wantAborts(t, "a marker with values", p, 0, 9, api.Abort{Pid: 7, First: 3, Last: 5})
	// A transaction at -1 is one, though Known can't tell it from none.
	p = tableOf(inTxn(-1, 7, 0, 0, 1))
	wantKnown(t, "begun at -1", p, 7, 0, 1, -1)
	wantUnstable(t, "begun at -1", p, -1, true)
	p.Apply(inTxn(4, 7, 0, 1, 1))
	p.Apply(aborts(5, 7, 0))
	wantUnstable(t, "begun at -1, and ended", p, 0, false)
	wantAborts(t, "begun at -1, and ended", p, 0, 0, api.Abort{Pid: 7, First: -1, Last: 5})
}

// TestSeqGoesRound: a producer's epoch may begin so in the log, though Check takes none of these.
func TestSeqGoesRound(t *testing.T) {
	p := tableOf(data(0, 7, 0, math.MaxInt, 1))
	wantKnown(t, "the greatest Seq", p, 7, 0, math.MinInt, -1)
	wantCheck(t, "the greatest Seq again", p, data(1, 7, 0, math.MaxInt, 1), again(0))
	wantCheck(t, "Seq 0", p, data(1, 7, 0, 0, 1), seq)
	p.Apply(data(1, 7, 0, math.MaxInt-1, 1))
	wantCheck(t, "the greatest Seq, that comes next", p, data(2, 7, 0, math.MaxInt, 2), fine)
}

// P9.1 and P9.3: transactions.

func TestTransactionOfOne(t *testing.T) {
	for _, commit := range []bool{false, true} {
		end := commits(9, 7, 3)
		end.Commit = commit
		var want []api.Abort
		if !commit {
			want = []api.Abort{{Pid: 7, First: 4, Last: 9}}
		}
		p := New()
		p.Apply(data(3, 7, 3, 0, 1))
		wantKnown(t, "not Txn", p, 7, 3, 1, -1)
		wantUnstable(t, "not Txn", p, 0, false)
		p.Apply(inTxn(4, 7, 3, 1, 2))
		wantKnown(t, "it begins", p, 7, 3, 3, 4)
		wantUnstable(t, "it begins", p, 4, true)
		p.Apply(inTxn(6, 7, 3, 3, 2))
		wantKnown(t, "it goes on", p, 7, 3, 5, 4)
		p.Apply(data(8, 7, 3, 5, 1))
		wantKnown(t, "not Txn, within", p, 7, 3, 6, 4)
		wantUnstable(t, "within", p, 4, true)
		wantAborts(t, "within", p, 0, 99)
		p.Apply(end)
		wantKnown(t, "it ends", p, 7, 3, 6, -1)
		wantUnstable(t, "it ends", p, 0, false)
		wantAborts(t, "it ends", p, 0, 99, want...)
		end.Base = 10
		p.Apply(end)
		wantKnown(t, "none is open", p, 7, 3, 6, -1)
		wantAborts(t, "none is open", p, 0, 99, want...)
		p.Apply(inTxn(11, 7, 3, 6, 1))
		wantKnown(t, "another one", p, 7, 3, 7, 11)
		wantUnstable(t, "another one", p, 11, true)
		p.Apply(aborts(12, 7, 3))
		wantAborts(t, "another one", p, 0, 99, append(want, api.Abort{Pid: 7, First: 11, Last: 12})...)
	}
}

func TestTransactionAtOffset0(t *testing.T) {
	p := tableOf(inTxn(0, 7, 0, 0, 1))
	wantKnown(t, "at 0", p, 7, 0, 1, 0)
	wantUnstable(t, "at 0", p, 0, true)
	p.Apply(inTxn(1, 7, 0, 1, 1))
	wantKnown(t, "at 0, and on", p, 7, 0, 2, 0)
	p.Apply(aborts(2, 7, 0))
	wantUnstable(t, "at 0, ended", p, 0, false)
	wantAborts(t, "at 0, ended", p, 0, 9, api.Abort{Pid: 7, First: 0, Last: 2})
}

func TestMarkerOfNone(t *testing.T) {
	for what, b := range map[string]api.Batch{"aborts": aborts(3, 7, 2), "commits": commits(3, 7, 2)} {
		p := tableOf(b)
		wantKnown(t, what, p, 7, 2, 0, -1)
		wantUnstable(t, what, p, 0, false)
		wantAborts(t, what, p, 0, 9)
		wantPids(t, what, p, 7)
		wantCheck(t, what, p, data(4, 7, 1, 0, 1), fenced)
		wantCheck(t, what, p, data(4, 7, 2, 0, 1), fine)
		wantCheck(t, what, p, data(4, 7, 2, 1, 1), seq)
	}
}

// TestTransactionAndAGreaterEpoch: it stays open till a marker comes, of whichever epoch.
func TestTransactionAndAGreaterEpoch(t *testing.T) {
	p := tableOf(inTxn(4, 7, 0, 0, 2), aborts(6, 7, 1))
	wantKnown(t, "a marker", p, 7, 1, 0, -1)
	wantAborts(t, "a marker", p, 0, 9, api.Abort{Pid: 7, First: 4, Last: 6})
	p = tableOf(inTxn(4, 7, 0, 0, 2), commits(6, 7, 1))
	wantKnown(t, "a marker that commits", p, 7, 1, 0, -1)
	wantAborts(t, "a marker that commits", p, 0, 9)
	wantUnstable(t, "a marker that commits", p, 0, false)

	p = tableOf(inTxn(4, 7, 0, 0, 2), data(6, 7, 1, 0, 1))
	wantKnown(t, "data", p, 7, 1, 1, 4)
	p.Apply(inTxn(7, 7, 2, 0, 1))
	wantKnown(t, "data of a transaction", p, 7, 2, 1, 4)
	wantUnstable(t, "data of a transaction", p, 4, true)
	p.Apply(aborts(8, 7, 2))
	wantAborts(t, "data of a transaction", p, 0, 9, api.Abort{Pid: 7, First: 4, Last: 8})
}

func TestTransactionsOfTwo(t *testing.T) {
	p := tableOf(inTxn(2, 7, 0, 0, 1), inTxn(3, 8, 0, 0, 1))
	wantUnstable(t, "both open", p, 2, true)
	p.Apply(aborts(4, 7, 0))
	wantUnstable(t, "one open", p, 3, true)
	wantKnown(t, "one open", p, 7, 0, 1, -1)
	wantKnown(t, "one open", p, 8, 0, 1, 3)
	p.Apply(inTxn(5, 7, 0, 1, 1))
	wantUnstable(t, "the first one again", p, 3, true)
	p.Apply(aborts(6, 8, 0))
	wantUnstable(t, "the other one", p, 5, true)
	p.Apply(commits(7, 7, 0))
	wantUnstable(t, "none open", p, 0, false)
	wantAborts(t, "both", p, 0, 9, api.Abort{Pid: 7, First: 2, Last: 4}, api.Abort{Pid: 8, First: 3, Last: 6})

	// In the order of the markers, not of the beginnings nor of the producers.
	p = tableOf(inTxn(0, 8, 0, 0, 1), inTxn(1, 7, 0, 0, 1), inTxn(2, 9, 0, 0, 1), aborts(3, 9, 0), aborts(4, 7, 0), aborts(5, 8, 0))
	want := []api.Abort{{Pid: 9, First: 2, Last: 3}, {Pid: 7, First: 1, Last: 4}, {Pid: 8, First: 0, Last: 5}}
	wantAborts(t, "of three", p, 0, 9, want...)
	wantAborts(t, "of three", p, 4, 1, want[2])
	wantAborts(t, "of three", p, 4, 9, want[1:]...)
	wantAborts(t, "of three", p, 0, 2, want[1:]...)
}

// TestUnstableOfMany: the first one is that of the least offset, whatever the order in which a map is gone through.
func TestUnstableOfMany(t *testing.T) {
	p := New()
	for i := range 100 {
		p.Apply(inTxn(i, uint64(1+i*37%100), 0, 0, 1))
	}
	for i := range 100 {
		for range 3 {
			wantUnstable(t, "of many", p, i, true)
		}
		p.Apply(commits(100+i, uint64(1+i*37%100), 0))
	}
	wantUnstable(t, "of none", p, 0, false)
}

// TestAbortsFromAndTo: at each First and Last, and about them.
func TestAbortsFromAndTo(t *testing.T) {
	p := tableOf(
		inTxn(0, 1, 0, 0, 2), aborts(2, 1, 0),
		inTxn(3, 2, 0, 0, 1), inTxn(4, 1, 0, 2, 2), aborts(6, 2, 0),
		inTxn(7, 3, 0, 0, 1), commits(8, 3, 0),
		aborts(9, 1, 0),
		inTxn(12, 3, 0, 1, 4), aborts(16, 3, 0),
		inTxn(17, 2, 0, 1, 4),
	)
	all := []api.Abort{{Pid: 1, First: 0, Last: 2}, {Pid: 2, First: 3, Last: 6}, {Pid: 1, First: 4, Last: 9}, {Pid: 3, First: 12, Last: 16}}
	places := []int{math.MinInt, -1, math.MaxInt}
	for i := range 24 {
		places = append(places, i)
	}
	for _, from := range places {
		for _, to := range places {
			var want []api.Abort
			for _, a := range all {
				if a.Last >= from && a.First < to {
					want = append(want, a)
				}
			}
			wantAborts(t, "of four", p, from, to, want...)
		}
	}
	wantAborts(t, "from its Last", p, 9, 10, all[2])
	wantAborts(t, "from behind its Last", p, 10, 12)
	wantAborts(t, "up to its First", p, 3, 4, all[1])
	wantAborts(t, "up to behind its First", p, 3, 5, all[1], all[2])
	wantAborts(t, "to ahead of from", p, 6, 5, all[1], all[2])
	wantAborts(t, "to ahead of from, and of all", p, 6, 0)
	wantAborts(t, "from behind all", p, 17, 99)
}

// P9.3: of none, and of many.

func wantEmpty(t *testing.T, p *Table) {
	t.Helper()
	for _, pid := range []uint64{0, 1, 1000, 1001, math.MaxUint64} {
		if got := p.known(pid); got != (known{}) {
			t.Errorf("Known(%d) = %+v", pid, got)
		}
	}
	wantUnstable(t, "of none", p, 0, false)
	wantAborts(t, "of none", p, math.MinInt, math.MaxInt)
	wantPids(t, "of none", p)
}

func TestOfNone(t *testing.T) {
	p := New()
	if p == nil {
		t.Fatal("New() is nil")
	}
	wantEmpty(t, p)
	wantCheck(t, "of none", p, data(0, 7, 0, 0, 1), fine)
	wantEmpty(t, p)
	// One that isn't known, where others are.
	p.Apply(inTxn(4, 7, 2, 3, 1))
	if got := p.known(8); got != (known{}) {
		t.Errorf("Known(8) = %+v", got)
	}
}

func TestPids(t *testing.T) {
	draw := rand.New(rand.NewSource(2))
	for range 20 {
		p := New()
		var want []uint64
		for i, pid := range draw.Perm(1000)[:200] {
			pid := uint64(pid + 1)
			want = append(want, pid)
			switch i % 3 {
			case 0:
				p.Apply(data(i, pid, 0, 0, 1))
			case 1:
				p.Apply(aborts(i, pid, 4))
			case 2:
				p.Apply(inTxn(i, pid, 0, 7, 1))
			}
			p.Apply(data(i, want[draw.Intn(len(want))], 5, 0, 1))
		}
		slices.Sort(want)
		wantPids(t, "of many", p, want...)
	}
}

// Rules that hold everywhere.

func TestNil(t *testing.T) {
	var p *Table
	for _, b := range []api.Batch{{}, data(0, 0, 0, 0, 1), data(0, 7, 0, 0, 1), data(0, 7, 0, 3, 1), aborts(0, 7, 0), data(-1, 1001, 0, 0, 0)} {
		wantCheck(t, "of nil", p, b, answer{e: api.ErrState})
		p.Apply(b)
	}
	wantEmpty(t, p)
}

func TestZero(t *testing.T) {
	var p Table
	wantEmpty(t, &p)
	wantCheck(t, "of the zero Table", &p, data(0, 7, 0, 0, 1), fine)
	wantCheck(t, "of the zero Table", &p, data(0, 7, 0, 1, 1), seq)
	p.Apply(inTxn(0, 7, 0, 0, 1))
	wantCheck(t, "of the zero Table", &p, data(1, 7, 0, 0, 1), again(0))
	wantUnstable(t, "of the zero Table", &p, 0, true)
	wantPids(t, "of the zero Table", &p, 7)
}

func TestTwoTablesAreApart(t *testing.T) {
	p, q := New(), New()
	p.Apply(inTxn(0, 7, 0, 0, 1))
	p.Apply(aborts(1, 7, 0))
	p.Apply(inTxn(2, 7, 0, 1, 1))
	wantEmpty(t, q)
	q.Apply(data(0, 7, 3, 0, 1))
	wantKnown(t, "the first table", p, 7, 0, 2, 2)
}

// TestAsksChangeNothing: neither a Check, refused or not, nor another question.
func TestAsksChangeNothing(t *testing.T) {
	m := &model{}
	for i := range 7 {
		m.log = append(m.log, inTxn(i, 7, 3, i, 1))
	}
	m.log = append(m.log, aborts(7, 7, 3), inTxn(8, 8, 0, 0, 2))
	p := tableOf(m.log...)
	ask := func() {
		for _, b := range refused() {
			p.Check(b)
		}
		for epoch := range 6 {
			for n := range 10 {
				p.Check(inTxn(9, 7, epoch, n, 1))
				p.Check(inTxn(9, 7, epoch, n, 2))
			}
			p.Check(aborts(9, 7, epoch))
			p.Check(commits(9, 8, epoch))
			p.Check(data(9, 9, epoch, 0, 1))
		}
		p.Known(9)
		p.Unstable()
		p.Aborts(0, 99)
		p.Pids()
	}
	ask()
	wantAsModel(t, p, m, m.log...)
	ask()
	wantAsModel(t, p, m, m.log...)
}

// roomy is a batch whose values stand in one memory, with room behind each, and behind the list.
func roomy() (api.Batch, [][]byte, []byte) {
	memory := []byte("onetwo and more")
	list := [][]byte{memory[0:3], memory[3:6], memory[6:10]}
	b := inTxn(4, 7, 0, 0, 0)
	b.Values = list[:2]
	return b, list, memory
}

func TestWhatIsHandedInStaysAndIsNotKept(t *testing.T) {
	b, list, memory := roomy()
	p := New()
	p.Check(b)
	p.Apply(b)
	p.Check(b)
	if !bytes.Equal(memory, []byte("onetwo and more")) || len(list[2]) != 4 || &list[0][0] != &memory[0] || &list[1][0] != &memory[3] || &list[2][0] != &memory[6] {
		t.Error("a call has changed what it was handed")
	}
	clear(memory)
	clear(list)
	b.Values = append(b.Values, nil)
	wantKnown(t, "changed behind Apply", p, 7, 0, 2, 4)
	wantCheck(t, "changed behind Apply", p, data(9, 7, 0, 0, 2), again(4))
	wantCheck(t, "changed behind Apply", p, data(9, 7, 0, 0, 3), seq)
}

func TestWhatIsAnsweredIsTheCallers(t *testing.T) {
	p := tableOf(inTxn(0, 7, 0, 0, 1), aborts(1, 7, 0), inTxn(2, 8, 0, 0, 1), aborts(3, 8, 0), inTxn(4, 9, 0, 0, 1), aborts(5, 9, 0))
	want := []api.Abort{{Pid: 7, First: 0, Last: 1}, {Pid: 8, First: 2, Last: 3}, {Pid: 9, First: 4, Last: 5}}
	for _, to := range []int{1, 3, 9, math.MaxInt} {
		one, other := p.Aborts(math.MinInt, to), p.Aborts(math.MinInt, to)
		clear(one[:cap(one)])
		_ = append(one[:0], make([]api.Abort, 8)...)
		if n := len(other); n == 0 || !slices.Equal(other, want[:n]) {
			t.Errorf("two answers of Aborts share memory: %+v", other)
		}
		wantAborts(t, "behind a change of an answer", p, 0, 9, want...)
	}
	late := p.Aborts(math.MinInt, math.MaxInt)
	one, other := p.Pids(), p.Pids()
	clear(one[:cap(one)])
	_ = append(one[:0], 1, 2, 3, 4, 5)
	if !slices.Equal(other, []uint64{7, 8, 9}) {
		t.Errorf("two answers of Pids share memory: %d", other)
	}
	wantPids(t, "behind a change of an answer", p, 7, 8, 9)
	// Nor does what is applied later change what was answered.
	for i := range 20 {
		p.Apply(inTxn(6+2*i, uint64(1+i), 0, 0, 1))
		p.Apply(aborts(7+2*i, uint64(1+i), 0))
	}
	if !slices.Equal(late, want) || !slices.Equal(other, []uint64{7, 8, 9}) {
		t.Error("what was answered has changed")
	}
}

// TestSameAnswerAgain: what a table tells hangs on what was applied alone.
func TestSameAnswerAgain(t *testing.T) {
	draw := rand.New(rand.NewSource(6))
	for range 50 {
		p, q := New(), New()
		for base := range 60 {
			b := drawn(draw, base, draw.Intn(6))
			p.Apply(b)
			q.Check(b)
			q.Aborts(0, base)
			q.Apply(b)
		}
		for range 50 {
			b := drawn(draw, 60, draw.Intn(6))
			if p.answer(b) != q.answer(b) || p.answer(b) != p.answer(b) {
				t.Fatalf("two answers to %+v: %+v and %+v", b, p.answer(b), q.answer(b))
			}
		}
		wantAborts(t, "two tables", p, 0, 99, q.Aborts(0, 99)...)
		wantPids(t, "two tables", p, q.Pids()...)
	}
}
