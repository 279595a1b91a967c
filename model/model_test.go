package model

import (
	"fmt"
	"math"
	"math/rand"
	"reflect"
	"slices"
	"testing"

	"penstock/api"
)

// values are records without a producer, at an offset.
func values(base int, list ...string) api.Batch {
	b := api.Batch{Base: base}
	for _, v := range list {
		b.Values = append(b.Values, []byte(v))
	}
	return b
}

// within are a producer's, in its transaction.
func within(base int, pid uint64, list ...string) api.Batch {
	b := values(base, list...)
	b.Pid, b.Txn = pid, true
	return b
}

func marker(base int, pid uint64, commit bool) api.Batch {
	return api.Batch{Base: base, Pid: pid, PEpoch: 1, Txn: true, Control: true, Commit: commit}
}

func wantCommitted(t *testing.T, log []api.Batch, high int, want ...Record) {
	t.Helper()
	if got := Committed(log, high); !slices.Equal(got, want) {
		t.Errorf("Committed(%+v, %d) = %+v, want %+v", log, high, got, want)
	}
}

func wantStable(t *testing.T, log []api.Batch, high, want int) {
	t.Helper()
	if got := Stable(log, high); got != want {
		t.Errorf("Stable(%+v, %d) = %d, want %d", log, high, got, want)
	}
}

func TestChapterExample(t *testing.T) {
	log := []api.Batch{within(0, 5, "a"), marker(1, 5, true)}
	wantCommitted(t, log, 1)
	wantCommitted(t, log, 2, Record{0, 5, "a"})
	wantStable(t, log, 1, 0)
	wantStable(t, log, 2, 2)
}

func TestNothing(t *testing.T) {
	for _, log := range [][]api.Batch{nil, {}, {values(0, "a")}} {
		for _, high := range []int{0, -5, math.MinInt} {
			wantCommitted(t, log, high)
			wantStable(t, log, high, 0)
		}
	}
	wantStable(t, nil, 9, 0)
	if !Agree(nil, nil, 9) || !Agree(nil, []api.Batch{values(0, "a")}, 9) || !Same(api.Batch{}, api.Batch{}) {
		t.Error("nothing agrees with all")
	}
}

// TestCounting: batches count up to ahead of the first one that ends behind the high watermark, whatever stands behind that.
func TestCounting(t *testing.T) {
	log := []api.Batch{values(0, "a", "b"), values(2, "c"), values(3, "d", "e"), values(1, "f")}
	a, b, c := Record{0, 0, "a"}, Record{1, 0, "b"}, Record{2, 0, "c"}
	for high, want := range [][]Record{nil, nil, {a, b}, {a, b, c}, {a, b, c}, {a, b, c, {3, 0, "d"}, {4, 0, "e"}, {1, 0, "f"}}} {
		wantCommitted(t, log, high, want...)
	}
	// Where the last that counts ends.
	for high, want := range []int{0, 0, 2, 3, 3, 2} {
		wantStable(t, log, high, want)
	}
	// Of a batch at the end of all numbers the sum goes round.
	far := []api.Batch{values(math.MaxInt, "a", "b"), values(5, "c")}
	wantCommitted(t, far, 6, Record{math.MaxInt, 0, "a"}, Record{math.MinInt, 0, "b"}, Record{5, 0, "c"})
	wantStable(t, far, 6, 6)
	wantStable(t, far, math.MinInt, 0)
	wantStable(t, far, math.MinInt+1, math.MinInt+1)
}

// TestFirstMarker: of several control batches of a producer the first one behind the batch tells; those of others, those ahead of it, and those that don't count, don't.
func TestFirstMarker(t *testing.T) {
	log := []api.Batch{
		marker(0, 5, true), within(1, 5, "a"), marker(2, 6, true), within(3, 6, "b"), marker(4, 5, false), within(5, 5, "c"), marker(6, 5, true), marker(7, 5, false), marker(8, 6, true),
	}
	b, c := Record{3, 6, "b"}, Record{5, 5, "c"}
	for high, want := range [][]Record{nil, nil, nil, nil, nil, nil, nil, {c}, {c}, {b, c}} {
		wantCommitted(t, log, high, want...)
	}
	for high, want := range []int{0, 1, 1, 1, 1, 3, 3, 3, 3, 9} {
		wantStable(t, log, high, want)
	}
	// What isn't Txn is committed at once; a control batch is one whatever else it is, and has no records.
	odd := []api.Batch{
		{Base: 0, Pid: 5, Values: [][]byte{[]byte("x")}},
		within(1, 5, "y"),
		{Base: 2, Pid: 5, Control: true, Commit: true, Values: [][]byte{[]byte("z"), []byte("z")}},
		{Base: 3, Txn: true, Values: [][]byte{nil}},
		{Base: 4, Control: true, Commit: true},
	}
	x, y, z := Record{0, 5, "x"}, Record{1, 5, "y"}, Record{3, 0, ""}
	wantCommitted(t, odd, 1, x)
	wantCommitted(t, odd, 2, x)
	wantCommitted(t, odd, 4, x, y)
	wantCommitted(t, odd, 5, x, y, z)
	for high, want := range []int{0, 1, 1, 3, 3, 5} {
		wantStable(t, odd, high, want)
	}
}

// TestStable: the least Base of those that are open, wherever it stands, but not behind the end.
func TestStable(t *testing.T) {
	wantStable(t, []api.Batch{within(7, 5, "a"), within(3, 6, "b"), values(9, "c")}, 20, 3)
	wantStable(t, []api.Batch{within(7, 5, "a"), values(3, "b")}, 20, 4)
	wantStable(t, []api.Batch{within(-7, 5, "a"), values(3, "b")}, 20, -7)
	wantStable(t, []api.Batch{{Base: 4}}, 20, 4)
	wantStable(t, []api.Batch{{Base: 4, Pid: 1, Txn: true}, values(2, "a", "b", "c")}, 20, 4)
}

func TestSame(t *testing.T) {
	full := api.Batch{Base: 1, Epoch: 2, Pid: 3, PEpoch: 4, Seq: 5, Txn: true, Control: true, Commit: true, Values: [][]byte{[]byte("a"), nil}}
	other := full
	other.Values = [][]byte{[]byte("a"), {}}
	if !Same(full, full) || !Same(full, other) || !Same(api.Batch{Values: [][]byte{}}, api.Batch{}) {
		t.Error("not the same")
	}
	changes := []func(*api.Batch){
		func(b *api.Batch) { b.Base++ }, func(b *api.Batch) { b.Epoch++ }, func(b *api.Batch) { b.Pid++ },
		func(b *api.Batch) { b.PEpoch++ }, func(b *api.Batch) { b.Seq++ }, func(b *api.Batch) { b.Txn = false },
		func(b *api.Batch) { b.Control = false }, func(b *api.Batch) { b.Commit = false },
		func(b *api.Batch) { b.Values = b.Values[:1] }, func(b *api.Batch) { b.Values = nil },
		func(b *api.Batch) { b.Values = [][]byte{[]byte("b"), nil} }, func(b *api.Batch) { b.Values = [][]byte{nil, []byte("a")} },
		func(b *api.Batch) { b.Values = append(b.Values[:2:2], nil) },
	}
	if n := reflect.TypeOf(full).NumField(); n != 9 {
		t.Errorf("a batch has %d fields", n)
	}
	for i, change := range changes {
		b := full
		change(&b)
		if Same(full, b) || Same(b, full) {
			t.Errorf("the change %d isn't seen", i)
		}
	}
}

// TestAgree: place by place, up to where one has none, or one begins at the high watermark or behind it.
func TestAgree(t *testing.T) {
	a := []api.Batch{values(0, "a"), values(1, "b", "c"), values(3, "d")}
	b := slices.Clone(a)
	b[1] = values(1, "b", "x")
	for high, want := range []bool{true, true, false, false, false} {
		if Agree(a, b, high) != want || Agree(b, a, high) != want {
			t.Errorf("up to %d: %v", high, !want)
		}
	}
	if !Agree(a, b[:1], 9) || !Agree(b[:1], a, 9) || !Agree(a, a, 9) || Agree(a, a[1:], 9) || Agree(a[:1], a[1:], 9) {
		t.Error("place by place, as far as both have one")
	}
	// Where one begins at the high watermark, be it either, the rest doesn't count.
	c := []api.Batch{values(0, "a"), values(5, "x"), values(3, "y")}
	for high, want := range map[int]bool{1: true, 2: true, 5: true, 6: false} {
		if Agree(a, c, high) != want || Agree(c, a, high) != want {
			t.Errorf("up to %d: %v", high, !want)
		}
	}
}

// plain is what the chapter says, in its own order: each batch by itself.
func plain(log []api.Batch, high int) ([]Record, int) {
	end := func(b api.Batch) int {
		if b.Control {
			return b.Base + 1
		}
		return b.Base + len(b.Values)
	}
	n := 0
	for n < len(log) && end(log[n]) <= high {
		n++
	}
	var list []Record
	stable := 0
	if n > 0 {
		stable = end(log[n-1])
	}
	for i, b := range log[:n] {
		if b.Control {
			continue
		}
		committed, ended := !b.Txn, !b.Txn
		for _, c := range log[i+1 : n] {
			if b.Txn && c.Control && c.Pid == b.Pid {
				committed, ended = c.Commit, true
				break
			}
		}
		if !ended {
			stable = min(stable, b.Base)
		}
		for j, v := range b.Values {
			if committed {
				list = append(list, Record{b.Base + j, b.Pid, string(v)})
			}
		}
	}
	return list, stable
}

// drawn is a log by chance; most follow one another.
func drawn(draw *rand.Rand) []api.Batch {
	var log []api.Batch
	at := 0
	for range draw.Intn(25) {
		b := within(at, uint64(draw.Intn(3)), []string{"a", "b", "c"}[:draw.Intn(4)]...)
		if draw.Intn(3) == 0 {
			b = marker(at, uint64(draw.Intn(3)), draw.Intn(2) == 0)
		}
		b.Txn = draw.Intn(4) > 0
		if draw.Intn(20) == 0 {
			b.Base += draw.Intn(9) - 4
		}
		at += max(1, len(b.Values))
		log = append(log, b)
	}
	return log
}

func TestDrawnLogs(t *testing.T) {
	records := 0
	for seed := range 3000 {
		draw := rand.New(rand.NewSource(int64(seed)))
		log := drawn(draw)
		text := fmt.Sprint(log)
		for high := range 60 {
			list, stable := plain(log, high)
			wantCommitted(t, log, high, list...)
			wantStable(t, log, high, stable)
			records += len(list)
		}
		other := slices.Clone(log)
		if len(log) > 0 {
			other[draw.Intn(len(log))].Seq++
		}
		for high := range 60 {
			i := slices.IndexFunc(log, func(b api.Batch) bool { return b.Base >= high })
			if i < 0 {
				i = len(log)
			}
			if want := reflect.DeepEqual(log[:i], other[:i]); Agree(log, other, high) != want {
				t.Errorf("Agree(%+v, %+v, %d) = %v", log, other, high, !want)
			}
		}
		if t.Failed() || fmt.Sprint(log) != text {
			t.Fatalf("seed %d, of %s", seed, text)
		}
	}
	if records < 10000 {
		t.Errorf("%d records", records)
	}
}

// TestOwnMemory: what is answered is nobody else's, and the room behind a list stays as it is.
func TestOwnMemory(t *testing.T) {
	log := []api.Batch{within(0, 5, "a"), marker(1, 5, true), within(2, 5, "b")}
	list := Committed(log[:2], 9)
	clear(log[0].Values[0])
	if list[0].Value != "a" || string(log[2].Values[0]) != "b" {
		t.Errorf("%+v, %+v", list, log)
	}
	clear(list)
	log[0].Values[0] = []byte("c")
	wantCommitted(t, log, 2, Record{0, 5, "c"})
}
