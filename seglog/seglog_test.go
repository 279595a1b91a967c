package seglog

import (
	"math"
	"slices"
	"strconv"
	"strings"
	"testing"

	"penstock/api"
	"penstock/disk"
)

// noNames are what no log can be called.
var noNames = []string{
	"", "123456789", strings.Repeat("n", 1000), "ééééé", ".", "..", "a.", ".a", "a.b", "1234567.", ".1234567", "123.5678", "p0.00000000",
	"\xff.",
}

var goodNames = []string{"p", "p0", "12345678", "éééé", "\x00", "\xff", "~", " ", "00000000", "/", "\xffabcdefg"}

func TestExamples(t *testing.T) {
	d := disk.New()
	l := open(t, d, "p0")
	wantErrno(t, "Put at 1", l.Put(of(1, "a")), api.ErrOffset)
	wantErrno(t, "Put of three values", l.Put(small(0, 3)), api.OK)
	if l.End() != 3 || l.Synced() != 0 {
		t.Errorf("End = %d, Synced = %d", l.End(), l.Synced())
	}
	wantErrno(t, "Flush", l.Flush(), api.OK)
	if l.Synced() != 3 {
		t.Errorf("Synced = %d", l.Synced())
	}

	wantErrno(t, "Truncate", l.Truncate(2), api.OK)
	wantBatches(t, "Read", l.Read(0, all))
	if l.End() != 0 {
		t.Errorf("End = %d", l.End())
	}

	for l.End() < 31 {
		putAll(t, l, of(l.End(), strings.Repeat("x", 5)))
	}
	for len(l.Segments()) < 2 {
		putAll(t, l, small(l.End(), 1))
	}
	names := []string{"p0.00000000", "p0." + strings.Repeat("0", 6) + strconv.Itoa(l.Segments()[1])}
	if !slices.Equal(d.Names(), names) {
		t.Errorf("Names = %q, want %q", d.Names(), names)
	}
}

// P8.1.

func TestOpenRefuses(t *testing.T) {
	dead := disk.New()
	put(t, dead, "p0.00000000", file{textOf(of(0, "a")) + "torn", 5})
	before := filesOf(t, dead)
	dead.Arm(0)
	wantErrno(t, "Append", dead.Append("other", []byte("x")), api.ErrDead)
	before["other"] = file{}
	refused := func(d *disk.Disk, name string, want api.Errno) {
		t.Helper()
		if l, e := Open(d, name); l != nil || e != want {
			t.Errorf("Open(%q) = %v, %d; want %d", name, l, e, want)
		}
	}
	d := diskOf(t, before)
	for _, name := range noNames {
		refused(nil, name, api.ErrState)
		refused(dead, name, api.ErrArg)
		refused(d, name, api.ErrArg)
	}
	for _, name := range goodNames {
		refused(nil, name, api.ErrState)
		refused(dead, name, api.ErrDead)
	}
	wantView(t, "the disk", view{Files: filesOf(t, d)}, view{Files: before})
	dead.Crash(-2)
	if text, e := dead.Read("p0.00000000"); e != api.OK || len(text) < 5 {
		t.Errorf("Read = %q, %d", text, e)
	}
	wantGoesOn(t, dead, wantFound(t, dead, "p0"))
}

func TestOpenOfNone(t *testing.T) {
	for _, name := range goodNames {
		d := disk.New()
		l := open(t, d, name)
		wantView(t, "an empty log", seen(t, l, d), view{Files: map[string]file{}})
		wantErrno(t, "Flush", l.Flush(), api.OK)
		wantErrno(t, "Truncate", l.Truncate(0), api.OK)
		wantErrno(t, "Truncate", l.Truncate(7), api.OK)
		wantErrno(t, "Truncate", l.Truncate(-1), api.ErrOffset)
		wantErrno(t, "Drop", l.Drop(7), api.OK)
		wantErrno(t, "Drop", l.Drop(-7), api.OK)
		wantView(t, "an empty log", seen(t, l, d), view{Files: map[string]file{}})
		wantGoesOn(t, d, l)
		for _, file := range d.Names() {
			if !strings.HasPrefix(file, name+".") || len(file) != len(name)+9 {
				t.Errorf("the log %q has the file %q", name, file)
			}
		}
	}
}

// TestOtherFiles: what isn't quite a segment's name isn't the log's.
func TestOtherFiles(t *testing.T) {
	names := []string{
		"p0", "p0.", "p0.0", "p0.0000000", "p0.000000000", "p0.0000000000", "p0.010000000", "p0.0000000a", "p0.a0000000", "p0.-0000001",
		"p0.+0000001", "p0. 0000000", "p0.0000_000", "p0.00000000~", "p0.00000000.", "p0.00000000.00000000", "p0..00000000", ".p0.00000000",
		"p.00000000", "p00.00000000", "xp0.00000000", "P0.00000000", "p0-00000000", "p000000000", ".00000000", "00000000",
		"p0.9223372036854775808", "p0.18446744073709551616", "p0.18446744073709551647", "p0.99999999999999999999",
		"p0.\u0660\u0660\u0660\u0660\u0660\u0660\u0660\u0660", "p0.0000000\xff", "p0.\xff0000000",
	}
	texts := map[string]string{}
	for i, name := range names {
		texts[name] = textOf(of(0, "a"), of(1, "b")) + "torn"[:i%5]
	}
	others := lasting(texts)
	for name, f := range others {
		f.Lasting = len(name) % len(f.Text)
		others[name] = f
	}
	d := diskOf(t, others)
	l := open(t, d, "p0")
	wantView(t, "the log", seen(t, l, d), view{Files: others})
	m := newModel("p0")
	for _, b := range []api.Batch{big(0), small(9, 2), big(11), marker(20)} {
		wantErrno(t, "Put", l.Put(b), m.put(b))
		wantView(t, "Put", seen(t, l, d), m.view(others))
	}
	wantErrno(t, "Flush", l.Flush(), api.OK)
	m.flush()
	wantErrno(t, "Drop", l.Drop(9), api.OK)
	m.drop(9)
	wantErrno(t, "Truncate", l.Truncate(11), m.truncate(11))
	wantView(t, "the log", seen(t, l, d), m.view(others))
	wantView(t, "the log, opened", seen(t, wantFound(t, d, "p0"), d), m.view(others))
}

// TestOrderOfSegments: by their offsets, and not by their files' names.
func TestOrderOfSegments(t *testing.T) {
	d := diskOf(t, lasting(map[string]string{
		"p0.99999997":   textOf(small(99999997, 2)),
		"p0.99999999":   textOf(small(99999999, 1)),
		"p0.100000000":  textOf(small(100000000, 1)),
		"p0.100000001":  textOf(small(100000001, 16)),
		"p0.1000000000": textOf(small(1000000000, 1)),
	}))
	l := wantFound(t, d, "p0")
	wantInts(t, "Segments", l.Segments(), 99999997, 99999999, 100000000, 100000001)
	if l.Start() != 99999997 || l.End() != 100000017 {
		t.Errorf("Start = %d, End = %d", l.Start(), l.End())
	}
	if n := len(d.Names()); n != 4 {
		t.Errorf("%d files", n)
	}
	wantGoesOn(t, d, l)
}

// faults are what may stand in the place of the batch at an offset.
func faults(base int) map[string]string {
	good := textOf(small(base, 3))
	turned := []byte(good)
	turned[len(turned)-1] ^= 4
	summed := []byte(good)
	summed[4] ^= 1
	long := []byte(good)
	long[1] = 200
	return map[string]string{
		"one byte":           good[:1],
		"a torn head":        good[:7],
		"a head":             good[:8],
		"a torn payload":     good[:len(good)-1],
		"a bit turned":       string(turned),
		"a sum's bit turned": string(summed),
		"a length too great": string(long),
		"an empty payload":   framed(nil),
		"no batch":           framed([]byte("no batch")),
		"a byte more":        framed(append(form(small(base, 3)), 0)),
		"a byte less":        framed(form(small(base, 3))[:14]),
		"no values":          textOf(api.Batch{Base: base}),
		"a bad producer":     textOf(api.Batch{Base: base, Pid: 1001, Values: [][]byte{nil}}),
		"a bad marker":       textOf(api.Batch{Base: base, Pid: 1, Control: true}),
		"below 0":            textOf(small(-base-1, 1)),
		"one ahead":          textOf(small(base-1, 3)),
		"one behind":         textOf(small(base+1, 3)),
		"far behind":         textOf(small(base+1000, 3)),
		"the first one":      textOf(small(0, 3)),
		"noughts":            strings.Repeat("\x00", 512),
	}
}

// TestFaultsAnywhere: at the beginning, within and at the end of each segment, with good batches or none behind it.
func TestFaultsAnywhere(t *testing.T) {
	const first = 5
	list := [][]api.Batch{{small(5, 3), small(8, 1), marker(9)}, {small(10, 2), big(12)}, {small(21, 1), small(22, 1), small(23, 2)}}
	for seg, batches := range list {
		for place := range len(batches) + 1 {
			at := list[seg][0].Base
			if place > 0 {
				at = endOf(batches[place-1])
			}
			for what, text := range faults(at) {
				for _, instead := range []int{0, 1} {
					texts := map[string]string{}
					for i, s := range list {
						texts[nameOf("p0", s[0].Base)] = textOf(s...)
						if i == seg {
							texts[nameOf("p0", s[0].Base)] = textOf(s[:place]...) + text + textOf(s[min(place+instead, len(s)):]...)
						}
					}
					d := diskOf(t, lasting(texts))
					l := wantFound(t, d, "p0")
					want := slices.Concat(slices.Concat(list[:seg]...), batches[:place])
					wantBatches(t, what, l.Read(0, all), want...)
					if n := len(l.Segments()); n != seg+1 || l.Start() != first || l.End() != at || l.Synced() != at {
						t.Fatalf("%s: Segments = %d, Start = %d, End = %d, Synced = %d", what, l.Segments(), l.Start(), l.End(), l.Synced())
					}
					wantGoesOn(t, d, l)
				}
			}
		}
	}
}

// TestCutAnywhere: a segment that ends at any byte, the last one and one ahead of it.
func TestCutAnywhere(t *testing.T) {
	list := [][]api.Batch{{small(0, 2), small(2, 1)}, {marker(3), small(4, 3), of(7, "", "x")}, {small(9, 1)}}
	for seg, batches := range list {
		text := textOf(batches...)
		for n := range len(text) + 1 {
			for _, lasts := range []int{0, n / 2, n} {
				files := map[string]file{}
				for i, s := range list {
					all := textOf(s...)
					files[nameOf("p0", s[0].Base)] = file{all, len(all)}
					if i == seg {
						files[nameOf("p0", s[0].Base)] = file{all[:n], lasts}
					}
				}
				d := diskOf(t, files)
				l := wantFound(t, d, "p0")
				if n < len(text) && len(l.Segments()) > seg+1 {
					t.Fatalf("cut at %d: Segments = %d", n, l.Segments())
				}
				wantGoesOn(t, d, l)
			}
		}
	}
}

// TestTornSegmentEndsTheLog: the next segment is removed, even if it begins where the torn one's good batches end.
func TestTornSegmentEndsTheLog(t *testing.T) {
	d := diskOf(t, lasting(map[string]string{
		"p0.00000000": textOf(small(0, 2)) + "x",
		"p0.00000002": textOf(small(2, 2)),
		"p0.00000004": textOf(small(4, 2)),
	}))
	l := wantFound(t, d, "p0")
	wantInts(t, "Segments", l.Segments(), 0)
	wantBatches(t, "Read", l.Read(0, all), small(0, 2))
	wantGoesOn(t, d, l)
}

// TestSegmentsOutOfPlace: one that doesn't begin where the one ahead of it ends is removed, and so are all behind it.
func TestSegmentsOutOfPlace(t *testing.T) {
	for _, base := range []int{0, 1, 2, 3, 4, 5, 7, 100} {
		for _, first := range []int{0, 3} {
			d := diskOf(t, lasting(map[string]string{
				nameOf("p0", first):       textOf(small(first, 2), small(first+2, 1)),
				nameOf("p0", first+3):     textOf(small(first+3, 1)),
				nameOf("p0", first+4+100): textOf(small(first+104, 1)),
			}))
			if d.Append(nameOf("p0", base), nil) != api.OK {
				t.Fatal("Append")
			}
			wantGoesOn(t, d, wantFound(t, d, "p0"))
		}
	}
	d := diskOf(t, lasting(map[string]string{
		"p0.00000000": textOf(small(0, 2)), "p0.00000003": textOf(small(3, 2)), "p0.00000005": textOf(small(5, 2)),
	}))
	wantInts(t, "Segments behind a gap", wantFound(t, d, "p0").Segments(), 0)
	d = diskOf(t, lasting(map[string]string{
		"p0.00000000": textOf(small(0, 2)), "p0.00000001": textOf(small(1, 2)), "p0.00000003": textOf(small(3, 2)),
	}))
	wantInts(t, "Segments that overlap", wantFound(t, d, "p0").Segments(), 0)
}

func TestEmptySegments(t *testing.T) {
	d := diskOf(t, lasting(map[string]string{"p0.00000031": ""}))
	l := wantFound(t, d, "p0")
	if l.Start() != 31 || l.End() != 31 || l.Synced() != 31 {
		t.Errorf("Start = %d, End = %d, Synced = %d", l.Start(), l.End(), l.Synced())
	}
	wantErrno(t, "Put", l.Put(small(0, 1)), api.ErrOffset)
	wantErrno(t, "Truncate", l.Truncate(30), api.ErrOffset)
	wantGoesOn(t, d, l)

	d = diskOf(t, lasting(map[string]string{"p0.00000031": "", "p0.00000032": textOf(small(32, 1))}))
	wantInts(t, "Segments", wantFound(t, d, "p0").Segments(), 31)

	d = diskOf(t, lasting(map[string]string{"p0.00000000": textOf(small(0, 2)), "p0.00000002": ""}))
	l = wantFound(t, d, "p0")
	wantInts(t, "Segments", l.Segments(), 0, 2)
	putAll(t, l, small(2, 1))
	wantInts(t, "Segments", l.Segments(), 0, 2)
	wantErrno(t, "Truncate", l.Truncate(2), api.OK)
	wantInts(t, "Segments", l.Segments(), 0)

	d = diskOf(t, lasting(map[string]string{"p0.00000000": textOf(small(0, 2)), "p0.00000002": ""}))
	l = open(t, d, "p0")
	wantErrno(t, "Truncate", l.Truncate(2), api.OK)
	wantInts(t, "Segments behind a Truncate of no batch", l.Segments(), 0)
	wantView(t, "opened again", seen(t, open(t, d, "p0"), d), seen(t, l, d))
}

// TestOpenOfWhatDoesntLast: Open makes nothing last.
func TestOpenOfWhatDoesntLast(t *testing.T) {
	one, two := textOf(small(0, 2), small(2, 1)), textOf(small(3, 2), small(5, 1))
	for a := range len(one) + 1 {
		for b := range len(two) + 1 {
			d := diskOf(t, map[string]file{"p0.00000000": {one, a}, "p0.00000003": {two, b}})
			l := wantFound(t, d, "p0")
			synced := l.Synced()
			d.Crash(0)
			if l = wantFound(t, d, "p0"); l.End() != synced && a == len(one) || l.End() < synced {
				t.Fatalf("%d, %d: End = %d, and Synced was %d", a, b, l.End(), synced)
			}
		}
	}
	d := diskOf(t, map[string]file{"p0.00000000": {one, 0}, "p0.00000003": {two, 0}})
	l := open(t, d, "p0")
	wantErrno(t, "Flush", l.Flush(), api.OK)
	if l.Synced() != 6 {
		t.Errorf("Synced = %d", l.Synced())
	}
	d.Crash(0)
	wantBatches(t, "Read", wantFound(t, d, "p0").Read(0, all), small(0, 2), small(2, 1), small(3, 2), small(5, 1))
}

// P8.2: Put and Flush.

func TestPutRefuses(t *testing.T) {
	bad := map[api.Errno][]api.Batch{
		api.ErrArg: {
			small(-1, 1), small(math.MinInt, 1), {Base: 3, Epoch: -1, Values: [][]byte{nil}}, {Base: 3, Pid: 1001, Values: [][]byte{nil}},
			{Base: 9, Seq: -1}, {Base: 3, Pid: 1, PEpoch: 1001, Values: [][]byte{nil}},
		},
		api.ErrForm: {
			{Base: 3}, {Base: 9}, {Base: 3, Pid: 1, Control: true}, {Base: 0, Txn: true, Values: [][]byte{nil}},
			{Base: 3, Commit: true, Values: [][]byte{nil}}, {Base: 3, Pid: 1, Txn: true, Control: true, Values: [][]byte{nil}},
		},
		api.ErrLong:   {small(3, 17), small(9, 17), of(3, strings.Repeat("x", 65)), of(0, "", strings.Repeat("x", 65))},
		api.ErrOffset: {small(0, 1), small(2, 1), small(4, 1), small(math.MaxInt, 1), marker(2), marker(4)},
	}
	d := disk.New()
	l := open(t, d, "p0")
	putAll(t, l, small(0, 3))
	refused := func(before view, look bool) {
		t.Helper()
		for e, list := range bad {
			for _, b := range list {
				wantErrno(t, "Put", l.Put(b), e)
			}
		}
		if look {
			wantView(t, "behind a Put that was refused", seen(t, l, d), before)
		}
	}
	refused(seen(t, l, d), true)
	wantErrno(t, "Flush", l.Flush(), api.OK)
	refused(seen(t, l, d), true)
	d.Arm(0)
	wantErrno(t, "Put", l.Put(small(3, 1)), api.ErrDead)
	refused(view{}, false)
	wantErrno(t, "Put on a disk that has broken", l.Put(small(3, 1)), api.ErrDead)
}

// wantKept asks for what a log knew ahead of its disk's breaking.
func wantKept(t *testing.T, l *Log, before view) {
	t.Helper()
	before.Files = nil
	wantView(t, "on a disk that has broken", view{l.Start(), l.End(), l.Synced(), l.Segments(), l.Read(l.Start(), all), nil}, before)
}

func TestDeadDisk(t *testing.T) {
	d := disk.New()
	l := open(t, d, "p0")
	putAll(t, l, small(0, 3), big(3))
	before := seen(t, l, d)
	d.Arm(7)
	wantErrno(t, "Put", l.Put(small(12, 1)), api.ErrDead)
	wantKept(t, l, before)
	wantErrno(t, "Put", l.Put(small(12, 1)), api.ErrDead)
	wantErrno(t, "Put ahead of the end", l.Put(small(11, 1)), api.ErrOffset)
	wantErrno(t, "Put of no values", l.Put(small(11, 0)), api.ErrForm)
	wantErrno(t, "Flush", l.Flush(), api.ErrDead)
	for _, to := range []int{0, 1, 3, 12, 13} {
		wantErrno(t, "Truncate", l.Truncate(to), api.ErrDead)
		wantErrno(t, "Drop", l.Drop(to), api.ErrDead)
	}
	wantErrno(t, "Truncate", l.Truncate(-1), api.ErrOffset)
	wantKept(t, l, before)
	if l, e := Open(d, "p0"); l != nil || e != api.ErrDead {
		t.Errorf("Open = %v, %d", l, e)
	}
	d.Crash(-1)
	wantGoesOn(t, d, wantFound(t, d, "p0"))

	d = disk.New()
	l = open(t, d, "p0")
	d.Arm(0)
	wantErrno(t, "Put", l.Put(small(0, 1)), api.ErrDead)
	wantKept(t, l, view{})
	d.Crash(0)
	wantInts(t, "Segments", wantFound(t, d, "p0").Segments(), 0)
}

// fill puts batches till the last segment's file has just so many bytes.
func fill(t *testing.T, l *Log, d *disk.Disk, bytes int) {
	t.Helper()
	for {
		size := 0
		if bases := l.Segments(); len(bases) > 0 {
			size, _, _ = d.Size(nameOf(l.name, bases[len(bases)-1]))
		}
		left := bytes - size
		if left == 0 {
			return
		}
		value := 20
		if left < 80 {
			value = left - len(textOf(of(l.End(), "")))
		}
		if value < 0 || value > 64 {
			t.Fatalf("%d bytes are left", left)
		}
		putAll(t, l, of(l.End(), strings.Repeat("f", value)))
	}
}

func TestSegmentsAreFull(t *testing.T) {
	for _, size := range []int{490, 510, 511, 512, 513, 560} {
		d := disk.New()
		l := open(t, d, "p0")
		fill(t, l, d, size)
		end := l.End()
		if len(l.Segments()) != 1 || l.Synced() != 0 {
			t.Fatalf("%d: Segments = %d, Synced = %d", size, l.Segments(), l.Synced())
		}
		next := small(end, 2)
		putAll(t, l, next)
		if size < 512 {
			wantInts(t, "Segments", l.Segments(), 0)
			if l.Synced() != 0 || len(filesOf(t, d)["p0.00000000"].Text) != size+len(textOf(next)) {
				t.Errorf("%d: Synced = %d", size, l.Synced())
			}
			continue
		}
		wantInts(t, "Segments", l.Segments(), 0, end)
		files := filesOf(t, d)
		if l.Synced() != end || files["p0.00000000"].Lasting != size || len(files["p0.00000000"].Text) != size {
			t.Errorf("%d: Synced = %d", size, l.Synced())
		}
		if f := files[nameOf("p0", end)]; f.Text != textOf(next) || f.Lasting != 0 {
			t.Errorf("%d: the next segment is %q, %d", size, f.Text, f.Lasting)
		}
		d.Crash(0)
		wantInts(t, "Segments", wantFound(t, d, "p0").Segments(), 0, end)
	}
}

// TestFullDisk: a Put that has no room changes nothing; not what lasts, either.
func TestFullDisk(t *testing.T) {
	for _, b := range [][]api.Batch{{small(0, 3)}, {big(0)}, nil} {
		d := disk.New()
		l := open(t, d, "p0")
		putAll(t, l, b...)
		end := l.End()
		size := len(textOf(b...))
		wantErrno(t, "Append", d.Append("beside", make([]byte, api.MaxDisk-size-20)), api.OK)
		before := seen(t, l, d)
		wantErrno(t, "Put", l.Put(of(end, "xyz")), api.ErrFull)
		wantView(t, "behind a Put that was refused", seen(t, l, d), before)
		putAll(t, l, of(end, "x"))
		wantErrno(t, "Remove", d.Remove("beside"), api.OK)
		wantGoesOn(t, d, l)
	}
	d := disk.New()
	l := open(t, d, "p0")
	putAll(t, l, small(0, 3))
	for i := range api.MaxFiles - 1 {
		wantErrno(t, "Append", d.Append("f"+strconv.Itoa(i), nil), api.OK)
	}
	putAll(t, l, big(3))
	wantErrno(t, "Put", l.Put(small(12, 1)), api.ErrFull)
	wantInts(t, "Segments", l.Segments(), 0)
	if l.End() != 12 || l.Synced() != 0 {
		t.Errorf("End = %d, Synced = %d", l.End(), l.Synced())
	}
	wantErrno(t, "Remove", d.Remove("f0"), api.OK)
	putAll(t, l, small(12, 1))
	wantInts(t, "Segments", l.Segments(), 0, 12)
}

// TestOffsetsTooLongForAName: of a log's name of 8 bytes a file's name has room for fifteen digits.
func TestOffsetsTooLongForAName(t *testing.T) {
	d := diskOf(t, lasting(map[string]string{"12345678.999999999999999": ""}))
	l := wantFound(t, d, "12345678")
	putAll(t, l, big(999999999999999))
	before := seen(t, l, d)
	wantErrno(t, "Put", l.Put(small(l.End(), 1)), api.ErrArg)
	wantView(t, "behind a Put that was refused", seen(t, l, d), before)

	d = diskOf(t, lasting(map[string]string{"1234567.999999999999999": ""}))
	l = wantFound(t, d, "1234567")
	putAll(t, l, big(999999999999999))
	wantGoesOn(t, d, l)
}

// TestOffsetsGoRound: behind the greatest one nothing can be laid.
func TestOffsetsGoRound(t *testing.T) {
	for _, n := range []int{1, 3} {
		d := diskOf(t, lasting(map[string]string{nameOf("p0", math.MaxInt-2): textOf(small(math.MaxInt-2, 2))}))
		l := wantFound(t, d, "p0")
		putAll(t, l, small(math.MaxInt, n))
		if l.End() != math.MinInt+n-1 {
			t.Errorf("End = %d", l.End())
		}
		wantErrno(t, "Put", l.Put(small(l.End(), 1)), api.ErrArg)
		wantErrno(t, "Put", l.Put(small(0, 1)), api.ErrOffset)
		wantErrno(t, "Flush", l.Flush(), api.OK)
		l = wantFound(t, d, "p0")
		if l.Start() != math.MaxInt-2 || l.End() != math.MinInt+n-1 || l.Synced() != l.End() {
			t.Errorf("Start = %d, End = %d, Synced = %d", l.Start(), l.End(), l.Synced())
		}
		wantErrno(t, "Drop", l.Drop(math.MaxInt), api.OK)
		wantErrno(t, "Truncate", l.Truncate(math.MaxInt-2), api.OK)
		wantBatches(t, "Read", l.Read(math.MinInt, all))
	}
}

func TestFlush(t *testing.T) {
	d := disk.New()
	l := open(t, d, "p0")
	m := newModel("p0")
	for _, b := range []api.Batch{small(0, 3), marker(3), big(4), big(13), small(22, 1)} {
		wantErrno(t, "Put", l.Put(b), m.put(b))
		wantView(t, "Put", seen(t, l, d), m.view(nil))
		for range 2 {
			wantErrno(t, "Flush", l.Flush(), api.OK)
			m.flush()
			wantView(t, "Flush", seen(t, l, d), m.view(nil))
			if l.Synced() != l.End() {
				t.Errorf("Synced = %d, End = %d", l.Synced(), l.End())
			}
		}
	}
}

// P8.2: Read, Truncate and Drop.

// several is a log of four segments that begins behind 0, and its model.
func several(t *testing.T, synced int) (*Log, *disk.Disk, *model) {
	t.Helper()
	d := disk.New()
	l := open(t, d, "p0")
	m := newModel("p0")
	list := []api.Batch{big(0), big(9), small(18, 2), big(20), marker(29), small(30, 3), big(33), small(42, 1), marker(43), small(44, 4)}
	for i, b := range list {
		wantErrno(t, "Put", l.Put(b), m.put(b))
		if i == synced {
			wantErrno(t, "Flush", l.Flush(), api.OK)
			m.flush()
		}
	}
	wantErrno(t, "Drop", l.Drop(9), api.OK)
	m.drop(9)
	wantView(t, "the log", seen(t, l, d), m.view(nil))
	wantInts(t, "Segments", l.Segments(), 9, 18, 29, 42)
	return l, d, m
}

func TestRead(t *testing.T) {
	l, d, m := several(t, -1)
	before := seen(t, l, d)
	offsets := []int{math.MinInt, -1, 0, 8, math.MaxInt}
	for from := 8; from < 51; from++ {
		offsets = append(offsets, from)
	}
	for _, from := range offsets {
		for _, n := range []int{math.MinInt, -1, 0, 1, 2, 3, 5, 8, 9, 10, 11, 1000, math.MaxInt} {
			wantBatches(t, "Read", l.Read(from, n), m.read(from, n)...)
		}
	}
	wantBatches(t, "Read within a batch", l.Read(19, 2), small(18, 2), big(20))
	wantBatches(t, "Read at a batch's end", l.Read(20, 2), big(20), marker(29))
	wantBatches(t, "Read at the end", l.Read(48, 2))
	wantBatches(t, "Read at the last offset", l.Read(47, 2), small(44, 4))
	wantBatches(t, "Read ahead of the beginning", l.Read(0, 1), big(9))
	wantView(t, "behind Read", seen(t, l, d), before)
}

func TestTruncate(t *testing.T) {
	offsets := []int{math.MinInt, -1, 0, 100, math.MaxInt}
	for to := 7; to < 51; to++ {
		offsets = append(offsets, to)
	}
	for synced := -1; synced < 10; synced++ {
		for _, to := range offsets {
			l, d, m := several(t, synced)
			e := api.OK
			if to < 9 {
				e = api.ErrOffset
			}
			wantErrno(t, "Truncate", l.Truncate(to), e)
			wantErrno(t, "the model's Truncate", m.truncate(to), e)
			wantView(t, "Truncate to "+strconv.Itoa(to), seen(t, l, d), m.view(nil))
			wantFound(t, d, "p0")
			wantGoesOn(t, d, l)
		}
	}
	l, _, _ := several(t, -1)
	wantErrno(t, "Truncate", l.Truncate(18), api.OK)
	wantInts(t, "Segments", l.Segments(), 9)
	wantErrno(t, "Truncate", l.Truncate(17), api.OK)
	wantInts(t, "Segments", l.Segments(), 9)
	if l.Start() != 9 || l.End() != 9 || l.Synced() != 9 {
		t.Errorf("Start = %d, End = %d, Synced = %d", l.Start(), l.End(), l.Synced())
	}
}

// TestTruncateLasts: what was taken away doesn't come back, and what is laid in its place stands there.
func TestTruncateLasts(t *testing.T) {
	for _, to := range []int{9, 18, 20, 29, 42, 44} {
		l, d, _ := several(t, 9)
		left := slices.DeleteFunc(l.Read(0, all), func(b api.Batch) bool { return endOf(b) > to })
		wantErrno(t, "Truncate", l.Truncate(to), api.OK)
		b := of(to, "instead")
		putAll(t, l, b)
		for keep := range 12 {
			files := filesOf(t, d)
			twin := diskOf(t, files)
			twin.Crash(keep)
			wantBatches(t, "Read", wantFound(t, twin, "p0").Read(0, all), left...)
		}
		d.Crash(-2)
		l = wantFound(t, d, "p0")
		if !isBeginning(l.Read(0, all), append(left, b)) {
			t.Errorf("Read = %+v", l.Read(0, all))
		}
		wantGoesOn(t, d, l)
	}
}

func TestDrop(t *testing.T) {
	offsets := []int{math.MinInt, -1, 0, 100, math.MaxInt}
	for before := 7; before < 51; before++ {
		offsets = append(offsets, before)
	}
	for synced := -1; synced < 10; synced++ {
		for _, before := range offsets {
			l, d, m := several(t, synced)
			wantErrno(t, "Drop", l.Drop(before), api.OK)
			m.drop(before)
			wantView(t, "Drop ahead of "+strconv.Itoa(before), seen(t, l, d), m.view(nil))
			wantFound(t, d, "p0")
			wantGoesOn(t, d, l)
		}
	}
	for before, want := range map[int][]int{
		17: {9, 18, 29, 42}, 18: {18, 29, 42}, 19: {18, 29, 42}, 28: {18, 29, 42}, 29: {29, 42}, 41: {29, 42}, 42: {42}, 48: {42},
	} {
		l, d, _ := several(t, -1)
		wantErrno(t, "Drop", l.Drop(before), api.OK)
		wantInts(t, "Segments", l.Segments(), want...)
		d.Crash(0)
		wantInts(t, "Segments", wantFound(t, d, "p0").Segments(), want...)
	}
}

// The rules that hold everywhere.

func TestNilAndZero(t *testing.T) {
	var zero Log
	for _, l := range []*Log{nil, &zero} {
		wantErrno(t, "Put", l.Put(small(0, 1)), api.ErrState)
		wantErrno(t, "Put of no values", l.Put(api.Batch{}), api.ErrState)
		wantErrno(t, "Put at 1", l.Put(small(1, 1)), api.ErrState)
		wantErrno(t, "Flush", l.Flush(), api.ErrState)
		wantErrno(t, "Truncate", l.Truncate(0), api.ErrState)
		wantErrno(t, "Truncate", l.Truncate(-1), api.ErrState)
		wantErrno(t, "Drop", l.Drop(0), api.ErrState)
		if len(l.Read(0, 1)) != 0 || len(l.Segments()) != 0 || l.Start() != 0 || l.End() != 0 || l.Synced() != 0 {
			t.Error("there is something in no log")
		}
	}
}

// spoil changes all that a batch's lists reach, their spare room too.
func spoil(b api.Batch) {
	values := b.Values[:cap(b.Values)]
	for _, v := range values {
		v = v[:cap(v)]
		for i := range v {
			v[i] = '!'
		}
	}
	clear(values)
}

func TestSharesNothing(t *testing.T) {
	d := disk.New()
	l := open(t, d, "p0")
	room := []byte("abcdefgh")
	values := [][]byte{room[:2], room[2:4], nil, room[4:5], []byte("never"), []byte("handed")}
	given := api.Batch{Pid: 1, Values: values[:4]}
	want := api.Batch{Pid: 1, Values: [][]byte{[]byte("ab"), []byte("cd"), {}, []byte("e")}}
	wantErrno(t, "Put", l.Put(given), api.OK)
	if string(room) != "abcdefgh" || string(values[4]) != "never" || string(values[5]) != "handed" || len(values[2]) != 0 {
		t.Errorf("Put changed what it was handed: %q, %q", room, values)
	}
	spoil(given)
	wantBatches(t, "Read", l.Read(0, all), want)

	putAll(t, l, small(4, 2), big(6), small(15, 1))
	before := seen(t, l, d)
	for range 2 {
		first, second := l.Read(0, all), l.Read(0, all)
		for _, b := range first {
			spoil(b)
		}
		clear(first[:cap(first)])
		wantBatches(t, "Read", second, before.Batches...)
		bases := l.Segments()
		clear(bases[:cap(bases)])
		wantView(t, "the log", seen(t, l, d), before)
		l = open(t, d, "p0")
	}
	list := l.Read(0, all)
	spoil(list[0])
	wantBatches(t, "one answer's others", list[1:], before.Batches[1:]...)
}

// TestTwoLogs: they don't touch each other, whatever their names have in common.
func TestTwoLogs(t *testing.T) {
	for _, pair := range [][2]string{{"p0", "p1"}, {"p", "p0"}, {"p0", "p00"}, {"0", "00"}, {"a", "A"}, {"p", "~p"}, {"é", "\xc3"}} {
		d := disk.New()
		one, two := open(t, d, pair[0]), open(t, d, pair[1])
		m, n := newModel(pair[0]), newModel(pair[1])
		step := func(what string) {
			t.Helper()
			files := n.view(nil).Files
			wantView(t, what, seen(t, one, d), m.view(files))
			wantView(t, what, seen(t, two, d), n.view(m.view(nil).Files))
		}
		for _, b := range []api.Batch{small(0, 3), big(3), big(12), small(21, 2)} {
			wantErrno(t, "Put", one.Put(b), m.put(b))
			step("Put to the one")
			b.Values = b.Values[:1]
			b.Base = two.End()
			wantErrno(t, "Put", two.Put(b), n.put(b))
			wantErrno(t, "Put", two.Put(big(b.Base+1)), n.put(big(b.Base+1)))
			step("Put to the other")
		}
		wantErrno(t, "Flush", two.Flush(), api.OK)
		n.flush()
		step("Flush")
		wantErrno(t, "Truncate", one.Truncate(12), m.truncate(12))
		step("Truncate")
		wantErrno(t, "Drop", two.Drop(12), api.OK)
		n.drop(12)
		step("Drop")
		one = open(t, d, pair[0])
		step("Open of the one")
		two = open(t, d, pair[1])
		step("Open of the other")
	}
}
