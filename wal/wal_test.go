package wal

import (
	"bytes"
	"encoding/binary"
	"hash/crc32"
	"math/rand"
	"slices"
	"strconv"
	"strings"
	"testing"

	"penstock/api"
	"penstock/disk"
)

// framed are payloads in a file, as the chapters tell their form.
func framed(payloads ...string) string {
	var b []byte
	for _, p := range payloads {
		b = binary.LittleEndian.AppendUint32(b, uint32(len(p)))
		b = binary.LittleEndian.AppendUint32(b, crc32.Checksum([]byte(p), crc32.MakeTable(crc32.Castagnoli)))
		b = append(b, p...)
	}
	return string(b)
}

func listOf(payloads ...string) [][]byte {
	var list [][]byte
	for _, p := range payloads {
		list = append(list, []byte(p))
	}
	return list
}

func textsOf(list [][]byte) []string {
	var texts []string
	for _, p := range list {
		texts = append(texts, string(p))
	}
	return texts
}

func wantErrno(t *testing.T, what string, got, want api.Errno) {
	t.Helper()
	if got != want {
		t.Errorf("%s = %d, want %d", what, got, want)
	}
}

// opened opens a file that must have these payloads.
func opened(t *testing.T, d *disk.Disk, name string, payloads ...string) *Wal {
	t.Helper()
	w, list, e := Open(d, name)
	if e != api.OK || w == nil || !slices.Equal(textsOf(list), payloads) {
		t.Fatalf("Open(%q) = %q, %d; want %q", name, list, e, payloads)
	}
	if n := w.Count(); n != len(payloads) {
		t.Errorf("Count = %d, want %d", n, len(payloads))
	}
	wantFile(t, d, name, framed(payloads...))
	return w
}

func wantRefused(t *testing.T, d *disk.Disk, name string, want api.Errno) {
	t.Helper()
	if w, list, e := Open(d, name); w != nil || len(list) != 0 || e != want {
		t.Errorf("Open(%q) = %v, %q, %d; want %d", name, w, list, e, want)
	}
}

func wantFile(t *testing.T, d *disk.Disk, name, text string) {
	t.Helper()
	if b, e := d.Read(name); string(b) != text || e != api.OK {
		t.Errorf("%q has %q, %d; want %q", name, b, e, text)
	}
}

func wantLasting(t *testing.T, d *disk.Disk, name string, want int) {
	t.Helper()
	if _, lasting, e := d.Size(name); lasting != want || e != api.OK {
		t.Errorf("of %q %d bytes last, %d; want %d", name, lasting, e, want)
	}
}

func appendAll(t *testing.T, w *Wal, payloads ...string) {
	t.Helper()
	for _, p := range payloads {
		wantErrno(t, "Append", w.Append([]byte(p)), api.OK)
	}
}

// fill lays bytes beside, till just n more have room.
func fill(t *testing.T, d *disk.Disk, n int) {
	t.Helper()
	used := 0
	for _, name := range d.Names() {
		size, _, _ := d.Size(name)
		used += size
	}
	wantErrno(t, "Append", d.Append("beside", make([]byte, api.MaxDisk-used-n)), api.OK)
}

func TestExamples(t *testing.T) {
	d := disk.New()
	w := opened(t, d, "w")
	appendAll(t, w, "a")
	wantErrno(t, "Sync", w.Sync(), api.OK)
	appendAll(t, w, "b")
	d.Crash(3)
	wantFile(t, d, "w", framed("a")+framed("b")[:3])
	w = opened(t, d, "w", "a")

	d.Arm(5)
	wantErrno(t, "Rewrite", w.Rewrite(listOf("x")), api.ErrDead)
	d.Crash(1)
	opened(t, d, "w", "a")
}

// P6.1.

func TestOpenMakesTheFile(t *testing.T) {
	d := disk.New()
	opened(t, d, "w")
	opened(t, d, strings.Repeat("n", 24))
	if names := d.Names(); !slices.Equal(names, []string{strings.Repeat("n", 24), "w"}) {
		t.Errorf("Names = %q", names)
	}
	opened(t, d, "w")
	d.Crash(0)
	opened(t, d, "w")
}

func TestOpenRefused(t *testing.T) {
	for _, name := range []string{"w", "", strings.Repeat("n", 25)} {
		wantRefused(t, nil, name, api.ErrState)
	}
	d := disk.New()
	wantRefused(t, d, "", api.ErrArg)
	wantRefused(t, d, strings.Repeat("n", 25), api.ErrArg)
	if names := d.Names(); len(names) != 0 {
		t.Errorf("Names = %q", names)
	}
	for i := range api.MaxFiles {
		wantErrno(t, "Append", d.Append("f"+strconv.Itoa(i), nil), api.OK)
	}
	wantRefused(t, d, "w", api.ErrFull)
	opened(t, d, "f0")
	d.Arm(0)
	opened(t, d, "f1")
	wantErrno(t, "Append", d.Append("f1", []byte("x")), api.ErrDead)
	for _, name := range []string{"f0", "w", "", strings.Repeat("n", 25)} {
		wantRefused(t, d, name, api.ErrDead)
	}
}

func TestOpenOnAFullDisk(t *testing.T) {
	d := disk.New()
	fill(t, d, 0)
	w := opened(t, d, "w")
	wantErrno(t, "Append", w.Append(nil), api.ErrFull)
}

// TestOpenTornAnywhere: the whole frames are found, what is behind them is cut off, and what is appended then is found, too.
func TestOpenTornAnywhere(t *testing.T) {
	payloads := []string{"abc", "", "d", strings.Repeat("e", 20)}
	text := framed(payloads...)
	for cut := range len(text) + 1 {
		d := disk.New()
		wantErrno(t, "Append", d.Append("w", []byte(text[:cut])), api.OK)
		whole := 0
		for whole < len(payloads) && len(framed(payloads[:whole+1]...)) <= cut {
			whole++
		}
		w := opened(t, d, "w", payloads[:whole]...)
		appendAll(t, w, "f")
		opened(t, d, "w", append(slices.Clone(payloads[:whole]), "f")...)
	}
}

func TestOpenTurned(t *testing.T) {
	payloads := []string{"abc", "de", "f"}
	for i := range payloads {
		text := []byte(framed(payloads...))
		start := len(framed(payloads[:i]...))
		for place := start + 4; place < len(framed(payloads[:i+1]...)); place++ {
			for bit := range 8 {
				d := disk.New()
				turned := slices.Clone(text)
				turned[place] ^= 1 << bit
				wantErrno(t, "Append", d.Append("w", turned), api.OK)
				opened(t, d, "w", payloads[:i]...)
			}
		}
	}
}

func TestOpenOfOtherBytes(t *testing.T) {
	long := framed(strings.Repeat("x", api.MaxBytes+1))
	for _, x := range []string{"x", "12345678", long, framed("x")[:8], "\xff\xff\xff\xff\xff\xff\xff\xff\xff"} {
		d := disk.New()
		wantErrno(t, "Append", d.Append("w", []byte(x)), api.OK)
		opened(t, d, "w")
		d = disk.New()
		wantErrno(t, "Append", d.Append("w", []byte(framed("a", "b")+x+framed("c"))), api.OK)
		opened(t, d, "w", "a", "b")
	}
	d := disk.New()
	wantErrno(t, "Append", d.Append("w", make([]byte, 20)), api.OK)
	opened(t, d, "w", "", "")
}

// TestOpenKeepsWhatLasts: opening makes no bytes last, nor takes any away but those behind the frames.
func TestOpenKeepsWhatLasts(t *testing.T) {
	d := disk.New()
	w := opened(t, d, "w")
	appendAll(t, w, "a")
	wantErrno(t, "Sync", w.Sync(), api.OK)
	appendAll(t, w, "b")
	opened(t, d, "w", "a", "b")
	wantLasting(t, d, "w", len(framed("a")))
	d.Crash(0)
	opened(t, d, "w", "a")
}

// P6.2.

func TestAppend(t *testing.T) {
	d := disk.New()
	w := opened(t, d, "w")
	most := strings.Repeat("x", api.MaxBytes)
	payloads := []string{"a", "", "bc", most, most[1:], "", "d"}
	for i, p := range payloads {
		appendAll(t, w, p)
		if n := w.Count(); n != i+1 {
			t.Errorf("Count = %d, want %d", n, i+1)
		}
		wantFile(t, d, "w", framed(payloads[:i+1]...))
		wantLasting(t, d, "w", 0)
	}
	wantErrno(t, "Append of none", w.Append(nil), api.OK)
	opened(t, d, "w", append(payloads, "")...)
}

func TestAppendRefused(t *testing.T) {
	d := disk.New()
	w := opened(t, d, "w")
	appendAll(t, w, "a")
	unchanged := func() {
		t.Helper()
		if n := w.Count(); n != 1 {
			t.Errorf("Count = %d", n)
		}
	}
	long := make([]byte, api.MaxBytes+1)
	wantErrno(t, "Append of too many", w.Append(long), api.ErrLong)
	wantErrno(t, "Append of far too many", w.Append(make([]byte, api.MaxDisk+1)), api.ErrLong)
	unchanged()
	fill(t, d, 9)
	wantErrno(t, "Append", w.Append([]byte("xy")), api.ErrFull)
	unchanged()
	wantFile(t, d, "w", framed("a"))
	wantErrno(t, "Append of too many", w.Append(long), api.ErrLong)

	d.Arm(8)
	wantErrno(t, "Append", w.Append([]byte("b")), api.ErrDead)
	unchanged()
	wantErrno(t, "Append", w.Append(nil), api.ErrDead)
	wantErrno(t, "Append of too many", w.Append(long), api.ErrLong)
	unchanged()
	d.Crash(-1)
	w = opened(t, d, "w", "a")
	appendAll(t, w, "b")
	opened(t, d, "w", "a", "b")
}

func TestSync(t *testing.T) {
	d := disk.New()
	w := opened(t, d, "w")
	wantErrno(t, "Sync", w.Sync(), api.OK)
	appendAll(t, w, "a", "b")
	wantErrno(t, "Sync", w.Sync(), api.OK)
	wantLasting(t, d, "w", len(framed("a", "b")))
	appendAll(t, w, "c")
	d.Arm(0)
	wantErrno(t, "Append", w.Append([]byte("d")), api.ErrDead)
	wantErrno(t, "Sync", w.Sync(), api.ErrDead)
	d.Crash(0)
	opened(t, d, "w", "a", "b")
}

func TestRewrite(t *testing.T) {
	most := strings.Repeat("x", api.MaxBytes)
	for _, list := range [][]string{nil, {""}, {"x"}, {"x", "", "yz"}, {most, "y", most}} {
		d := disk.New()
		w := opened(t, d, "w")
		appendAll(t, w, "a", "b")
		wantErrno(t, "Rewrite", w.Rewrite(listOf(list...)), api.OK)
		if n := w.Count(); n != len(list) {
			t.Errorf("Count = %d, want %d", n, len(list))
		}
		wantFile(t, d, "w", framed(list...))
		wantLasting(t, d, "w", len(framed(list...)))
		if names := d.Names(); !slices.Equal(names, []string{"w"}) {
			t.Errorf("Names = %q", names)
		}
		appendAll(t, w, "c")
		if n := w.Count(); n != len(list)+1 {
			t.Errorf("Count = %d, want %d", n, len(list)+1)
		}
		opened(t, d, "w", append(slices.Clone(list), "c")...)
		d.Crash(0)
		opened(t, d, "w", list...)
	}
}

func TestRewriteTooLong(t *testing.T) {
	long := make([]byte, api.MaxBytes+1)
	for _, list := range [][][]byte{{long}, {nil, long}, {long, nil}, {[]byte("x"), long, []byte("y")}} {
		d := disk.New()
		w := opened(t, d, "w")
		appendAll(t, w, "a", "b")
		wantErrno(t, "Rewrite", w.Rewrite(list), api.ErrLong)
		if n := w.Count(); n != 2 {
			t.Errorf("Count = %d", n)
		}
		wantFile(t, d, "w", framed("a", "b"))
		wantLasting(t, d, "w", 0)
		d.Arm(0)
		wantErrno(t, "Append", d.Append("x", []byte("x")), api.ErrDead)
		wantErrno(t, "Rewrite", w.Rewrite(list), api.ErrLong)
		wantErrno(t, "Rewrite", w.Rewrite(nil), api.ErrDead)
	}
}

// TestRewriteWithoutRoom: both files have to have room; a Rewrite that is refused changes neither payloads nor what lasts.
func TestRewriteWithoutRoom(t *testing.T) {
	d := disk.New()
	w := opened(t, d, "w")
	appendAll(t, w, "a")
	wantErrno(t, "Sync", w.Sync(), api.OK)
	appendAll(t, w, "b")
	refused := func(list ...string) {
		t.Helper()
		wantErrno(t, "Rewrite", w.Rewrite(listOf(list...)), api.ErrFull)
		if n := w.Count(); n != 2 {
			t.Errorf("Count = %d", n)
		}
		wantFile(t, d, "w", framed("a", "b"))
		wantLasting(t, d, "w", len(framed("a")))
	}
	fill(t, d, 20)
	refused("x", "yzuv")
	refused(strings.Repeat("x", 13))
	wantErrno(t, "Remove", d.Remove("beside"), api.OK)
	for i := range api.MaxFiles - 1 {
		wantErrno(t, "Append", d.Append("f"+strconv.Itoa(i), nil), api.OK)
	}
	refused("x")
	refused()
	wantErrno(t, "Remove", d.Remove("f0"), api.OK)
	wantErrno(t, "Remove", d.Remove("f1"), api.OK)
	fill(t, d, 20)
	wantErrno(t, "Rewrite", w.Rewrite(listOf("xy", "zu")), api.OK)
	opened(t, d, "w", "xy", "zu")
}

func TestRewriteOfALongName(t *testing.T) {
	d := disk.New()
	name := strings.Repeat("n", 23)
	w := opened(t, d, name)
	wantErrno(t, "Rewrite", w.Rewrite(listOf("x")), api.OK)
	opened(t, d, name, "x")
	name += "n"
	w = opened(t, d, name)
	appendAll(t, w, "a")
	wantErrno(t, "Rewrite", w.Rewrite(listOf("x")), api.ErrArg)
	opened(t, d, name, "a")
}

// TestRewriteBreaksAnywhere: whatever of the payloads that were there lasted, and whatever an earlier Rewrite has left.
func TestRewriteBreaksAnywhere(t *testing.T) {
	old, list := []string{"abc", "", "de"}, []string{"x", "", "yz"}
	size := len(framed(list...))
	for n := range size + 2 {
		for keep := range size + 2 {
			for synced := range len(old) + 1 {
				d := disk.New()
				w := opened(t, d, "w")
				wantErrno(t, "Append", d.Append("w~", []byte("what was left")[:keep%14]), api.OK)
				appendAll(t, w, old[:synced]...)
				wantErrno(t, "Sync", w.Sync(), api.OK)
				appendAll(t, w, old[synced:]...)
				want, e := old, api.ErrDead
				if n >= size {
					want, e = list, api.OK
				}
				d.Arm(n)
				wantErrno(t, "Rewrite", w.Rewrite(listOf(list...)), e)
				if c := w.Count(); c != len(want) {
					t.Errorf("Count = %d, want %d", c, len(want))
				}
				d.Crash(keep)
				w = opened(t, d, "w", want...)
				wantErrno(t, "Rewrite", w.Rewrite(listOf("again")), api.OK)
				opened(t, d, "w", "again")
				if names := d.Names(); !slices.Equal(names, []string{"w"}) {
					t.Errorf("Names = %q", names)
				}
			}
		}
	}
}

func TestRewriteOfNoneWritesNoByte(t *testing.T) {
	d := disk.New()
	w := opened(t, d, "w")
	appendAll(t, w, "a")
	d.Arm(0)
	wantErrno(t, "Rewrite", w.Rewrite(nil), api.OK)
	opened(t, d, "w")
}

// P6.3.

// known is what the promise lets be found: all of sure, and then a beginning of loose.
type known struct {
	sure, loose []string
}

func (k *known) fits(found []string) bool {
	all := slices.Concat(k.sure, k.loose)
	return len(k.sure) <= len(found) && len(found) <= len(all) && slices.Equal(found, all[:len(found)])
}

// found takes what was found: behind a Crash all of it lasts.
func (k *known) found(payloads []string) {
	k.sure, k.loose = payloads, nil
}

// do is a drawn call of a Wal; news, if it isn't nil, is what may be found in the place of all (where a Rewrite has broken).
func (k *known) do(w *Wal, draw *rand.Rand) (news *known) {
	switch draw.Intn(8) {
	default:
		p := strconv.Itoa(draw.Intn(1 << draw.Intn(30)))
		if w.Append([]byte(p)) == api.OK {
			k.loose = append(k.loose, p)
		}
	case 0, 1:
		if w.Sync() == api.OK {
			k.sure, k.loose = slices.Concat(k.sure, k.loose), nil
		}
	case 2:
		list := []string{}
		for range draw.Intn(4) {
			list = append(list, "r"+strconv.Itoa(draw.Intn(1000)))
		}
		if w.Rewrite(listOf(list...)) != api.OK {
			return &known{sure: list}
		}
		k.found(list)
	}
	return nil
}

// drawnRun does calls till the disk breaks or they end, and then a Crash and an Open, several times over.
func drawnRun(t *testing.T, seed int64) {
	t.Helper()
	draw := rand.New(rand.NewSource(seed))
	d := disk.New()
	w := opened(t, d, "w")
	k := &known{}
	for range 8 {
		d.Arm(draw.Intn(200) - 20)
		var news *known
		for range draw.Intn(25) {
			if n := k.do(w, draw); n != nil && news == nil {
				news = n
			}
		}
		d.Crash(int(draw.Uint64()))
		var list [][]byte
		var e api.Errno
		w, list, e = Open(d, "w")
		found := textsOf(list)
		if e != api.OK || !k.fits(found) && (news == nil || !news.fits(found)) {
			t.Fatalf("seed %d: Open = %q, %d; want %q, and of %q", seed, found, e, k.sure, k.loose)
		}
		k.found(found)
	}
}

func TestRecovered(t *testing.T) {
	for seed := range int64(2000) {
		drawnRun(t, seed)
	}
}

// TestGoesOnBehindACrash: a Wal that isn't opened anew lays nothing behind a torn frame, where it wouldn't be found.
func TestGoesOnBehindACrash(t *testing.T) {
	loose := len(framed("b", "cd"))
	for keep := range loose + 1 {
		d := disk.New()
		w := opened(t, d, "w")
		appendAll(t, w, "a")
		wantErrno(t, "Sync", w.Sync(), api.OK)
		appendAll(t, w, "b", "cd")
		d.Crash(keep)
		appendAll(t, w, "e", "f")
		wantErrno(t, "Sync", w.Sync(), api.OK)
		d.Crash(0)
		want := []string{"a"}
		if keep >= len(framed("b")) {
			want = append(want, "b")
		}
		if keep == loose {
			want = append(want, "cd")
		}
		opened(t, d, "w", append(want, "e", "f")...)
	}
}

func TestGoesOnBehindABreak(t *testing.T) {
	for n := range len(framed("bcd")) {
		d := disk.New()
		w := opened(t, d, "w")
		appendAll(t, w, "a")
		d.Arm(n)
		wantErrno(t, "Append", w.Append([]byte("bcd")), api.ErrDead)
		d.Crash(-1 - n)
		appendAll(t, w, "e")
		wantErrno(t, "Sync", w.Sync(), api.OK)
		d.Crash(0)
		if _, list, e := Open(d, "w"); e != api.OK || len(list) == 0 || string(list[len(list)-1]) != "e" {
			t.Errorf("Open = %q, %d", list, e)
		}
	}
}

// TestTwoOfOneFile: who has the file open beside another one lays behind what that has laid.
func TestTwoOfOneFile(t *testing.T) {
	d := disk.New()
	one := opened(t, d, "w")
	two := opened(t, d, "w")
	appendAll(t, one, "a")
	appendAll(t, two, "b")
	wantErrno(t, "Rewrite", two.Rewrite(listOf("c")), api.OK)
	appendAll(t, one, "d")
	opened(t, d, "w", "c", "d")
}

// TestFileTakenAway: the next payload is the first one of a new file.
func TestFileTakenAway(t *testing.T) {
	d := disk.New()
	w := opened(t, d, "w")
	appendAll(t, w, "a")
	wantErrno(t, "Remove", d.Remove("w"), api.OK)
	wantErrno(t, "Sync", w.Sync(), api.ErrNone)
	appendAll(t, w, "b")
	opened(t, d, "w", "b")
	wantErrno(t, "Remove", d.Remove("w"), api.OK)
	wantErrno(t, "Rewrite", w.Rewrite(listOf("c")), api.OK)
	opened(t, d, "w", "c")
}

// The rules that hold everywhere.

func TestNilAndZero(t *testing.T) {
	var zero Wal
	for _, w := range []*Wal{nil, &zero} {
		wantErrno(t, "Append", w.Append([]byte("x")), api.ErrState)
		wantErrno(t, "Append", w.Append(nil), api.ErrState)
		wantErrno(t, "Sync", w.Sync(), api.ErrState)
		wantErrno(t, "Rewrite", w.Rewrite(nil), api.ErrState)
		wantErrno(t, "Rewrite", w.Rewrite(listOf("x")), api.ErrState)
		if n := w.Count(); n != 0 {
			t.Errorf("Count = %d", n)
		}
	}
	var none *Wal
	wantErrno(t, "Append", none.Append(make([]byte, api.MaxBytes+1)), api.ErrState)
	wantErrno(t, "Rewrite", none.Rewrite([][]byte{make([]byte, api.MaxBytes+1)}), api.ErrState)
}

func TestSharesNothing(t *testing.T) {
	d := disk.New()
	w := opened(t, d, "w")
	whole := []byte("abcdef")
	wantErrno(t, "Append", w.Append(whole[:3]), api.OK)
	if string(whole) != "abcdef" {
		t.Errorf("Append changed what it was handed: %q", whole)
	}
	clear(whole)
	opened(t, d, "w", "abc")

	room := []byte("uvwxyz")
	list := [][]byte{room[:2], room[2:4], []byte("never"), []byte("handed")}
	wantErrno(t, "Rewrite", w.Rewrite(list[:2]), api.OK)
	if string(room) != "uvwxyz" || string(bytes.Join(list, []byte(" "))) != "uv wx never handed" {
		t.Errorf("Rewrite changed what it was handed: %q, %q", room, list)
	}
	clear(room)
	clear(list)
	w = opened(t, d, "w", "uv", "wx")

	_, one, _ := Open(d, "w")
	_, two, _ := Open(d, "w")
	clear(one[0][:cap(one[0])])
	if string(one[1]) != "wx" || string(two[0]) != "uv" {
		t.Error("Open's payloads share memory")
	}
	clear(two[0][:cap(two[0])])
	clear(two[1][:cap(two[1])])
	clear(two[:cap(two)])
	appendAll(t, w, "z")
	opened(t, d, "w", "uv", "wx", "z")
}

// TestOtherFilesStay: a Wal touches its own two files alone.
func TestOtherFilesStay(t *testing.T) {
	d := disk.New()
	for _, name := range []string{"v", "w.", "ww", "~w"} {
		wantErrno(t, "Append", d.Append(name, []byte("torn")), api.OK)
	}
	w := opened(t, d, "w")
	appendAll(t, w, "a")
	wantErrno(t, "Sync", w.Sync(), api.OK)
	wantErrno(t, "Rewrite", w.Rewrite(listOf("b")), api.OK)
	opened(t, d, "w", "b")
	for _, name := range []string{"v", "w.", "ww", "~w"} {
		wantFile(t, d, name, "torn")
		wantLasting(t, d, name, 0)
	}
}

// FuzzOpen: of any bytes in a file the frames that are found are its beginning, and opened again it is the same.
func FuzzOpen(f *testing.F) {
	f.Add([]byte{})
	f.Add(make([]byte, 15))
	f.Add([]byte(framed("abc") + "\x03\x00\x00\x00\x01"))
	f.Fuzz(func(t *testing.T, b []byte) {
		d := disk.New()
		if d.Append("w", b) != api.OK {
			return
		}
		_, list, e := Open(d, "w")
		left, _ := d.Read("w")
		if e != api.OK || !bytes.HasPrefix(b, left) || framed(textsOf(list)...) != string(left) {
			t.Fatalf("Open = %q, %d, and left %q of %q", list, e, left, b)
		}
		w := opened(t, d, "w", textsOf(list)...)
		appendAll(t, w, "z")
		opened(t, d, "w", append(textsOf(list), "z")...)
	})
}
