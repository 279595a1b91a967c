package seglog

import (
	"math/rand"
	"strings"
	"testing"

	"penstock/api"
	"penstock/disk"
)

// P8.4.

// below are a log's batches that last, as it tells.
func below(l *Log) []api.Batch {
	var list []api.Batch
	for _, b := range l.Read(l.Start(), all) {
		if endOf(b) <= l.Synced() {
			list = append(list, b)
		}
	}
	return list
}

// wantRecovered opens a log behind a Crash: it must have all of sure, and a beginning of known.
func wantRecovered(t *testing.T, d *disk.Disk, name string, sure, known []api.Batch) *Log {
	t.Helper()
	l := wantFound(t, d, name)
	got := l.Read(l.Start(), all)
	if !isBeginning(sure, got) || !isBeginning(got, known) {
		t.Fatalf("recovered %+v\nof %+v\nof which last %+v", got, known, sure)
	}
	if l.Synced() != l.End() {
		t.Fatalf("Synced = %d, End = %d", l.Synced(), l.End())
	}
	return l
}

// calls are of all kinds, over several segments: some that begin one, or take some away, ahead of any Flush and behind one.
func calls() []func(l *Log) api.Errno {
	at := func(make func(base int) api.Batch) func(l *Log) api.Errno {
		return func(l *Log) api.Errno { return l.Put(make(l.End())) }
	}
	few := at(func(base int) api.Batch { return small(base, 2) })
	whole := at(big)
	back := func(n int) func(l *Log) api.Errno {
		return func(l *Log) api.Errno { return l.Truncate(l.End() - n) }
	}
	second := func(l *Log) api.Errno { return l.Drop(l.Segments()[1]) }
	return []func(l *Log) api.Errno{
		few, few, (*Log).Flush, at(marker), few, whole, few, (*Log).Flush, few, back(1), few, whole, at(marker), back(2),
		whole, (*Log).Flush, few, second, few, back(4), few, (*Log).Flush, few, whole, few, second, few,
	}
}

// brokenAt does the calls on a disk that breaks behind n bytes, and tells whether it did.
func brokenAt(t *testing.T, n int) (*Log, *disk.Disk, bool) {
	t.Helper()
	d := disk.New()
	l := open(t, d, "p0")
	d.Arm(n)
	for _, call := range calls() {
		before := view{l.Start(), l.End(), l.Synced(), l.Segments(), l.Read(l.Start(), all), nil}
		e := call(l)
		if e == api.ErrDead {
			wantKept(t, l, before)
			wantErrno(t, "Flush", l.Flush(), api.ErrDead)
			return l, d, true
		}
		wantErrno(t, "a call", e, api.OK)
	}
	return l, d, false
}

func TestBreaksAnywhere(t *testing.T) {
	t.Parallel()
	draw := rand.New(rand.NewSource(1))
	for n, broke := 0, true; broke; n++ {
		for _, keep := range []int{0, draw.Intn(30), int(draw.Uint64())} {
			var l *Log
			var d *disk.Disk
			l, d, broke = brokenAt(t, n)
			sure, known := below(l), l.Read(l.Start(), all)
			d.Crash(keep)
			wantGoesOn(t, d, wantRecovered(t, d, "p0", sure, known))
		}
	}
}

// TestBreaksInANewSegment: the one ahead of it lasts only if the Put isn't refused, and the new one is gone if it is parted from it.
func TestBreaksInANewSegment(t *testing.T) {
	first := textOf(small(0, 2), big(2))
	for n := range len(textOf(small(11, 1))) + 1 {
		for keep := range len(first) + 1 {
			d := disk.New()
			l := open(t, d, "p0")
			putAll(t, l, small(0, 2))
			wantErrno(t, "Flush", l.Flush(), api.OK)
			putAll(t, l, big(2))
			d.Arm(n)
			if e := l.Put(small(11, 1)); e == api.OK {
				if l.Synced() != 11 || n < len(textOf(small(11, 1))) {
					t.Fatalf("Synced = %d", l.Synced())
				}
				continue
			}
			if l.Synced() != 2 || l.End() != 11 {
				t.Fatalf("Synced = %d, End = %d", l.Synced(), l.End())
			}
			d.Crash(keep)
			wantRecovered(t, d, "p0", []api.Batch{small(0, 2)}, []api.Batch{small(0, 2), big(2)})
		}
	}
}

// drawnBatch is one of any kind at an offset, and sometimes at a wrong one.
func drawnBatch(draw *rand.Rand, base int) api.Batch {
	if draw.Intn(10) == 0 {
		base += draw.Intn(5) - 2
	}
	b := api.Batch{Base: base, Epoch: draw.Intn(300), Pid: uint64(draw.Intn(3))}
	if b.Pid > 0 {
		b.Txn, b.PEpoch = draw.Intn(2) == 0, draw.Intn(1000)
	}
	if b.Txn && draw.Intn(3) == 0 {
		b.Control, b.Commit = true, draw.Intn(2) == 0
		return b
	}
	for range draw.Intn(1 << draw.Intn(5)) {
		b.Values = append(b.Values, []byte(strings.Repeat("v", draw.Intn(1<<draw.Intn(7)+1))))
	}
	return b
}

// both is a log and its model.
type both struct {
	l *Log
	m *model
}

// do is a drawn call of both; it tells what the log's call answered. The model doesn't do what a disk that breaks has refused.
func (x *both) do(t *testing.T, draw *rand.Rand) api.Errno {
	t.Helper()
	got, want := api.OK, api.OK
	offset := x.l.Start() - 1
	offset += draw.Intn(x.l.End() - offset + 2)
	switch draw.Intn(12) {
	default:
		b := drawnBatch(draw, x.l.End())
		if got = x.l.Put(b); got != api.ErrDead {
			want = x.m.put(b)
		}
	case 0, 1:
		if got = x.l.Flush(); got != api.ErrDead {
			x.m.flush()
		}
	case 2:
		if got = x.l.Truncate(offset); got != api.ErrDead {
			want = x.m.truncate(offset)
		}
	case 3:
		if got = x.l.Drop(offset); got != api.ErrDead {
			x.m.drop(offset)
		}
	}
	if got != api.ErrDead {
		wantErrno(t, "a drawn call", got, want)
	}
	return got
}

// drawnRun does calls of two logs on one disk till that breaks or they end, and then a Crash (or none) and Open of both, several times over.
func drawnRun(t *testing.T, seed int64) {
	t.Helper()
	draw := rand.New(rand.NewSource(seed))
	d := disk.New()
	logs := []*both{{open(t, d, "p"), newModel("p")}, {open(t, d, "p0"), newModel("p0")}}
	for range 5 {
		d.Arm(draw.Intn(5000) - 500)
		for range draw.Intn(60) {
			logs[draw.Intn(2)].do(t, draw)
		}
		for _, x := range logs {
			wantKept(t, x.l, x.m.view(nil))
		}
		if !d.Dead() {
			wantView(t, "one", seen(t, logs[0].l, d), logs[0].m.view(logs[1].m.view(nil).Files))
		}
		if d.Dead() || draw.Intn(2) == 0 {
			d.Crash(int(draw.Uint64() >> draw.Intn(64)))
			for _, x := range logs {
				l := wantRecovered(t, d, x.m.name, below(x.l), x.l.Read(x.l.Start(), all))
				if l.Start() != x.l.Start() && len(x.l.Segments()) > 0 {
					t.Fatalf("seed %d: Start = %d, and was %d", seed, l.Start(), x.l.Start())
				}
			}
		}
		for _, x := range logs {
			x.m, _ = found(x.m.name, filesOf(t, d))
			x.l = wantFound(t, d, x.m.name)
		}
	}
	d.Arm(-1)
	for _, x := range logs {
		wantGoesOn(t, d, wantFound(t, d, x.m.name))
	}
}

func TestRecovered(t *testing.T) {
	t.Parallel()
	for seed := range int64(400) {
		drawnRun(t, seed)
	}
}

// TestCrashWithoutOpen: a log that isn't opened anew lays nothing where it wouldn't be found, and tells of nothing as lasting that doesn't.
func TestCrashWithoutOpen(t *testing.T) {
	t.Parallel()
	for seed := range int64(1000) {
		draw := rand.New(rand.NewSource(seed))
		d := disk.New()
		x := &both{l: open(t, d, "p0")}
		for range 80 {
			if draw.Intn(15) == 0 {
				d.Crash(int(draw.Uint64() >> draw.Intn(64)))
				d.Arm(draw.Intn(3000) - 300)
			}
			var e api.Errno
			switch draw.Intn(8) {
			default:
				e = x.l.Put(drawnBatch(draw, x.l.End()))
			case 0:
				e = x.l.Flush()
			case 1:
				e = x.l.Truncate(max(x.l.End()-draw.Intn(20), x.l.Start()))
			case 2:
				e = x.l.Drop(x.l.Start() + draw.Intn(20))
			}
			if e == api.OK {
				m, others := found("p0", filesOf(t, d))
				wantView(t, "behind a call", seen(t, x.l, d), m.view(others))
			}
		}
		sure := below(x.l)
		d.Crash(int(draw.Uint64()))
		if l := wantFound(t, d, "p0"); !isBeginning(sure, l.Read(l.Start(), all)) {
			t.Fatalf("seed %d: lost some of %+v", seed, sure)
		}
	}
}

// TestTwoOfOneName: who has the log open beside another one lays behind what that has laid.
func TestTwoOfOneName(t *testing.T) {
	d := disk.New()
	one, two := open(t, d, "p0"), open(t, d, "p0")
	putAll(t, one, small(0, 2))
	wantErrno(t, "Put", two.Put(small(0, 1)), api.ErrOffset)
	putAll(t, two, big(two.End()))
	wantErrno(t, "Truncate", one.Truncate(2), api.OK)
	putAll(t, one, big(2), small(11, 1))
	wantErrno(t, "Flush", two.Flush(), api.OK)
	wantView(t, "the one", seen(t, open(t, d, "p0"), d), seen(t, two, d))
	wantBatches(t, "Read", two.Read(0, all), small(0, 2), big(2), small(11, 1))
}

// TestFilesTakenAway: whatever the calls answer then, what is left is found, and goes on.
func TestFilesTakenAway(t *testing.T) {
	for i := range 4 {
		for _, call := range calls() {
			l, d, _ := several(t, i)
			wantErrno(t, "Remove", d.Remove(nameOf("p0", l.Segments()[i])), api.OK)
			call(l)
			wantGoesOn(t, d, wantFound(t, d, "p0"))
		}
	}
}

// FuzzOpen: of any bytes in two files that is found which the chapter says, and it goes on.
func FuzzOpen(f *testing.F) {
	f.Add([]byte{}, []byte{}, byte(0))
	f.Add([]byte(textOf(small(0, 2), small(2, 1))), []byte(textOf(marker(3))), byte(3))
	f.Add([]byte(textOf(small(0, 2))+"x"), []byte(textOf(marker(2))), byte(2))
	f.Add([]byte(textOf(small(0, 2), small(1, 1))), []byte(textOf(small(2, 3)))[:9], byte(2))
	f.Fuzz(func(t *testing.T, one, two []byte, base byte) {
		d := disk.New()
		if len(one)+len(two) > api.MaxDisk/2 || base == 0 {
			return
		}
		put(t, d, "p0.00000000", file{string(one), len(one) / 2})
		put(t, d, nameOf("p0", int(base)), file{string(two), len(two) / 2})
		l := wantFound(t, d, "p0")
		wantView(t, "opened again", seen(t, open(t, d, "p0"), d), seen(t, l, d))
		wantGoesOn(t, d, l)
	})
}
