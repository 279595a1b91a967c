package disk

import (
	"bytes"
	"math"
	"math/rand"
	"slices"
	"strconv"
	"strings"
	"testing"

	"penstock/api"
)

var (
	name24 = strings.Repeat("n", 24)
	name25 = strings.Repeat("n", 25)
)

// noNames are what no file can be called.
var noNames = []string{"", name25, strings.Repeat("é", 12) + "n", strings.Repeat("n", 1000)}

func wantErrno(t *testing.T, what string, got, want api.Errno) {
	t.Helper()
	if got != want {
		t.Errorf("%s = %d, want %d", what, got, want)
	}
}

// wantFile asks for a file's bytes, and how many of them last.
func wantFile(t *testing.T, d *Disk, name, text string, lasting int) {
	t.Helper()
	b, e := d.Read(name)
	if string(b) != text || e != api.OK {
		t.Errorf("Read(%q) = %q, %d; want %q", name, b, e, text)
	}
	size, synced, e := d.Size(name)
	if size != len(text) || synced != lasting || e != api.OK {
		t.Errorf("Size(%q) = %d, %d, %d; want %d, %d", name, size, synced, e, len(text), lasting)
	}
}

func wantNames(t *testing.T, d *Disk, names ...string) {
	t.Helper()
	if got := d.Names(); !slices.Equal(got, names) {
		t.Errorf("Names = %q, want %q", got, names)
	}
}

// lay is a file of which some bytes last, and others don't.
func lay(t *testing.T, d *Disk, name, lasting, loose string) {
	t.Helper()
	wantErrno(t, "Append", d.Append(name, []byte(lasting)), api.OK)
	wantErrno(t, "Sync", d.Sync(name), api.OK)
	wantErrno(t, "Append", d.Append(name, []byte(loose)), api.OK)
}

func TestExamples(t *testing.T) {
	d := New()
	lay(t, d, "a", "xyz", "uvw")
	d.Crash(2)
	wantFile(t, d, "a", "xyzuv", 5)

	d = New()
	d.Arm(2)
	wantErrno(t, "Append", d.Append("a", []byte("xyz")), api.ErrDead)
	if b, e := d.Read("a"); len(b) != 0 || e != api.ErrDead {
		t.Errorf("Read of a broken disk = %q, %d", b, e)
	}
	if !d.Dead() {
		t.Error("Dead = false")
	}
	d.Crash(0)
	wantFile(t, d, "a", "", 0)

	d = New()
	lay(t, d, "a", "x", "yz")
	lay(t, d, "b", "uvw", "uvw")
	wantErrno(t, "Rename", d.Rename("a", "b"), api.OK)
	wantNames(t, d, "b")
	wantFile(t, d, "b", "xyz", 3)
}

// P5.1.

func TestAppend(t *testing.T) {
	d := New()
	wantNames(t, d)
	wantErrno(t, "Append of none", d.Append("a", nil), api.OK)
	wantFile(t, d, "a", "", 0)
	wantErrno(t, "Append of no bytes", d.Append("b", []byte{}), api.OK)
	wantFile(t, d, "b", "", 0)
	wantErrno(t, "Append", d.Append("a", []byte("xy")), api.OK)
	wantErrno(t, "Append", d.Append("a", nil), api.OK)
	wantErrno(t, "Append", d.Append("a", []byte("z")), api.OK)
	wantFile(t, d, "a", "xyz", 0)
	wantFile(t, d, "b", "", 0)
	wantNames(t, d, "a", "b")
}

func TestNamesAtTheirEdges(t *testing.T) {
	d := New()
	good := []string{"\x00", "n", "~", name24, strings.Repeat("é", 12), "\xff", "a/b"}
	for _, name := range good {
		wantErrno(t, "Append to "+strconv.Quote(name), d.Append(name, []byte("x")), api.OK)
		wantErrno(t, "Sync of "+strconv.Quote(name), d.Sync(name), api.OK)
		wantFile(t, d, name, "x", 1)
	}
	slices.Sort(good)
	wantNames(t, d, good...)
	for _, name := range noNames {
		wantErrno(t, "Append", d.Append(name, []byte("x")), api.ErrArg)
		wantErrno(t, "Append", d.Append(name, nil), api.ErrArg)
		wantErrno(t, "Sync", d.Sync(name), api.ErrArg)
		if b, e := d.Read(name); len(b) != 0 || e != api.ErrArg {
			t.Errorf("Read = %q, %d", b, e)
		}
		if size, lasting, e := d.Size(name); size != 0 || lasting != 0 || e != api.ErrArg {
			t.Errorf("Size = %d, %d, %d", size, lasting, e)
		}
		wantErrno(t, "Cut", d.Cut(name, 0), api.ErrArg)
		wantErrno(t, "Remove", d.Remove(name), api.ErrArg)
		wantErrno(t, "Rename to it", d.Rename("n", name), api.ErrArg)
		wantErrno(t, "Rename from it", d.Rename(name, "x"), api.ErrNone)
		wantErrno(t, "Rename from what isn't there", d.Rename("x", name), api.ErrNone)
	}
	wantNames(t, d, good...)
	wantFile(t, d, "n", "x", 1)
}

func TestNoSuchFile(t *testing.T) {
	d := New()
	lay(t, d, "a", "x", "y")
	for _, name := range []string{"b", "A", "a ", name24} {
		wantErrno(t, "Sync", d.Sync(name), api.ErrNone)
		if b, e := d.Read(name); len(b) != 0 || e != api.ErrNone {
			t.Errorf("Read = %q, %d", b, e)
		}
		if size, lasting, e := d.Size(name); size != 0 || lasting != 0 || e != api.ErrNone {
			t.Errorf("Size = %d, %d, %d", size, lasting, e)
		}
		wantErrno(t, "Cut", d.Cut(name, 0), api.ErrNone)
		wantErrno(t, "Cut", d.Cut(name, 1), api.ErrNone)
		wantErrno(t, "Cut below 0", d.Cut(name, -1), api.ErrArg)
		wantErrno(t, "Remove", d.Remove(name), api.ErrNone)
		wantErrno(t, "Rename", d.Rename(name, "c"), api.ErrNone)
		wantErrno(t, "Rename", d.Rename(name, "a"), api.ErrNone)
		wantErrno(t, "Rename to the same", d.Rename(name, name), api.ErrNone)
	}
	wantNames(t, d, "a")
	wantFile(t, d, "a", "xy", 1)
}

func TestSync(t *testing.T) {
	d := New()
	lay(t, d, "a", "xy", "z")
	lay(t, d, "b", "", "uv")
	wantFile(t, d, "a", "xyz", 2)
	wantErrno(t, "Sync", d.Sync("a"), api.OK)
	wantErrno(t, "Sync", d.Sync("a"), api.OK)
	wantFile(t, d, "a", "xyz", 3)
	wantFile(t, d, "b", "uv", 0)
	d.Crash(0)
	wantFile(t, d, "a", "xyz", 3)
	wantFile(t, d, "b", "", 0)
}

func TestCut(t *testing.T) {
	for n, want := range []struct {
		text    string
		lasting int
	}{{"", 0}, {"a", 1}, {"ab", 2}, {"abc", 2}, {"abcd", 2}} {
		d := New()
		lay(t, d, "f", "ab", "cd")
		wantErrno(t, "Cut", d.Cut("f", n), api.OK)
		wantFile(t, d, "f", want.text, want.lasting)
		// Bytes that were cut off don't come back, and what is behind them doesn't last.
		wantErrno(t, "Append", d.Append("f", []byte("xy")), api.OK)
		wantFile(t, d, "f", want.text+"xy", want.lasting)
	}
	d := New()
	lay(t, d, "f", "ab", "cd")
	for _, n := range []int{-1, -2, math.MinInt, 5, 6, math.MaxInt} {
		wantErrno(t, "Cut", d.Cut("f", n), api.ErrArg)
		wantFile(t, d, "f", "abcd", 2)
	}
	wantErrno(t, "Cut", d.Cut("f", 1), api.OK)
	wantErrno(t, "Cut", d.Cut("f", 2), api.ErrArg)
	d.Crash(0)
	wantFile(t, d, "f", "a", 1)
}

func TestRemove(t *testing.T) {
	d := New()
	lay(t, d, "a", "x", "y")
	lay(t, d, "b", "u", "v")
	wantErrno(t, "Remove", d.Remove("a"), api.OK)
	wantErrno(t, "Remove", d.Remove("a"), api.ErrNone)
	d.Crash(1)
	wantNames(t, d, "b")
	wantErrno(t, "Append", d.Append("a", []byte("z")), api.OK)
	wantFile(t, d, "a", "z", 0)
}

func TestRename(t *testing.T) {
	d := New()
	lay(t, d, "a", "x", "yz")
	wantErrno(t, "Rename", d.Rename("a", name24), api.OK)
	wantNames(t, d, name24)
	d.Crash(0)
	wantFile(t, d, name24, "xyz", 3)

	lay(t, d, "b", "u", "v")
	wantErrno(t, "Rename over another", d.Rename("b", name24), api.OK)
	wantNames(t, d, name24)
	wantFile(t, d, name24, "uv", 2)
	wantErrno(t, "Append", d.Append(name24, []byte("w")), api.OK)
	wantFile(t, d, name24, "uvw", 2)
}

func TestRenameToTheSameName(t *testing.T) {
	d := New()
	lay(t, d, "a", "x", "yz")
	wantErrno(t, "Rename", d.Rename("a", "a"), api.OK)
	wantNames(t, d, "a")
	wantFile(t, d, "a", "xyz", 1)
	d.Crash(0)
	wantFile(t, d, "a", "x", 1)
}

func TestNamesAreInOrder(t *testing.T) {
	d := New()
	want := []string{"10", "2", "A", "a", "a.00000000", "aa", "a~", "b", "é", "\xff"}
	slices.Sort(want)
	for i := range want {
		wantErrno(t, "Append", d.Append(want[(i*7+3)%len(want)], nil), api.OK)
	}
	for range 20 {
		wantNames(t, d, want...)
	}
}

// TestBytesOfADisk: it takes as many as there may be, and not one more, whatever file they stand in; what goes leaves room.
func TestBytesOfADisk(t *testing.T) {
	d := New()
	wantErrno(t, "Append of too many", d.Append("a", make([]byte, api.MaxDisk+1)), api.ErrFull)
	wantNames(t, d)
	wantErrno(t, "Append of all", d.Append("a", make([]byte, api.MaxDisk)), api.OK)
	wantErrno(t, "Append of none", d.Append("a", nil), api.OK)
	wantErrno(t, "Append of one more", d.Append("a", []byte("x")), api.ErrFull)
	wantErrno(t, "Append to another", d.Append("b", []byte("x")), api.ErrFull)
	wantNames(t, d, "a")
	wantErrno(t, "Append of none to another", d.Append("b", nil), api.OK)
	if size, lasting, e := d.Size("a"); size != api.MaxDisk || lasting != 0 || e != api.OK {
		t.Errorf("Size = %d, %d, %d", size, lasting, e)
	}

	wantErrno(t, "Cut", d.Cut("a", api.MaxDisk-2), api.OK)
	wantErrno(t, "Append", d.Append("b", []byte("xyz")), api.ErrFull)
	wantErrno(t, "Append", d.Append("b", []byte("xy")), api.OK)
	wantErrno(t, "Append", d.Append("c", []byte("z")), api.ErrFull)
	wantErrno(t, "Remove", d.Remove("b"), api.OK)
	wantErrno(t, "Append", d.Append("c", []byte("xyz")), api.ErrFull)
	wantErrno(t, "Append", d.Append("c", []byte("xy")), api.OK)
	wantErrno(t, "Rename", d.Rename("c", "a"), api.OK)
	wantErrno(t, "Append", d.Append("a", make([]byte, api.MaxDisk-1)), api.ErrFull)
	wantErrno(t, "Append", d.Append("a", make([]byte, api.MaxDisk-2)), api.OK)
	d.Crash(1)
	wantFile(t, d, "a", "xy\x00", 3)
	wantErrno(t, "Append", d.Append("b", make([]byte, api.MaxDisk-2)), api.ErrFull)
	wantErrno(t, "Append", d.Append("b", make([]byte, api.MaxDisk-3)), api.OK)
	wantErrno(t, "Rename to the same", d.Rename("b", "b"), api.OK)
	wantErrno(t, "Append", d.Append("b", []byte("x")), api.ErrFull)
}

func TestBytesOfABrokenAppendCount(t *testing.T) {
	d := New()
	d.Arm(3)
	wantErrno(t, "Append", d.Append("a", []byte("xyzu")), api.ErrDead)
	d.Crash(3)
	wantErrno(t, "Append", d.Append("b", make([]byte, api.MaxDisk-2)), api.ErrFull)
	wantErrno(t, "Append", d.Append("b", make([]byte, api.MaxDisk-3)), api.OK)
}

func TestFilesOfADisk(t *testing.T) {
	d := New()
	for i := range api.MaxFiles {
		wantErrno(t, "Append", d.Append("f"+strconv.Itoa(i), nil), api.OK)
	}
	wantErrno(t, "Append to one more", d.Append("g", nil), api.ErrFull)
	wantErrno(t, "Append to one more", d.Append("g", []byte("x")), api.ErrFull)
	wantErrno(t, "Append to none", d.Append("", nil), api.ErrArg)
	wantErrno(t, "Append to one that is there", d.Append("f7", []byte("x")), api.OK)
	if n := len(d.Names()); n != api.MaxFiles {
		t.Errorf("%d names", n)
	}
	wantErrno(t, "Rename", d.Rename("f7", "g"), api.OK)
	wantErrno(t, "Append to one more", d.Append("f7", nil), api.ErrFull)
	wantErrno(t, "Rename over another", d.Rename("f8", "g"), api.OK)
	wantErrno(t, "Append", d.Append("f7", nil), api.OK)
	wantErrno(t, "Append to one more", d.Append("f8", nil), api.ErrFull)
	wantErrno(t, "Remove", d.Remove("f9"), api.OK)
	wantErrno(t, "Append", d.Append("f8", nil), api.OK)
	wantErrno(t, "Append to one more", d.Append("f9", nil), api.ErrFull)
}

// P5.2.

// TestBreaksWithinAnAppend: at the first byte, within, at the last one, and just behind.
func TestBreaksWithinAnAppend(t *testing.T) {
	const text = "xyz"
	for n := range len(text) + 2 {
		d := New()
		lay(t, d, "a", "ab", "")
		d.Arm(n)
		if n >= len(text) {
			wantErrno(t, "Append", d.Append("a", []byte(text)), api.OK)
			wantFile(t, d, "a", "abxyz", 2)
			wantErrno(t, "Append of none", d.Append("a", nil), api.OK)
			wantErrno(t, "Append behind", d.Append("a", []byte("uvw")), api.ErrDead)
		} else {
			wantErrno(t, "Append", d.Append("a", []byte(text)), api.ErrDead)
		}
		if !d.Dead() {
			t.Error("Dead = false")
		}
		d.Crash(n)
		want := "ab" + "xyzuvw"[:n]
		wantFile(t, d, "a", want, len(want))
	}
}

func TestBreaksAtTheFirstByteOfANewFile(t *testing.T) {
	d := New()
	d.Arm(0)
	wantErrno(t, "Append of none", d.Append("a", nil), api.OK)
	wantErrno(t, "Append", d.Append("b", []byte("x")), api.ErrDead)
	wantNames(t, d, "a", "b")
	d.Crash(5)
	wantFile(t, d, "b", "", 0)
}

// TestBytesOfAllFilesCount: and nothing but bytes that are written does.
func TestBytesOfAllFilesCount(t *testing.T) {
	d := New()
	d.Arm(4)
	lay(t, d, "a", "x", "y")
	wantErrno(t, "Append", d.Append("b", []byte("u")), api.OK)
	wantErrno(t, "Cut", d.Cut("a", 1), api.OK)
	wantErrno(t, "Rename", d.Rename("a", "c"), api.OK)
	wantErrno(t, "Remove", d.Remove("c"), api.OK)
	wantErrno(t, "Append", d.Append("", []byte("xyz")), api.ErrArg)
	wantErrno(t, "Append", d.Append("b", make([]byte, api.MaxDisk)), api.ErrFull)
	if d.Dead() {
		t.Error("a refused Append broke the disk")
	}
	wantErrno(t, "Append", d.Append("b", []byte("v")), api.OK)
	wantErrno(t, "Append", d.Append("d", []byte("w")), api.ErrDead)
	d.Crash(-1)
	wantNames(t, d, "b", "d")
}

func TestTheLastArmCounts(t *testing.T) {
	d := New()
	d.Arm(1)
	d.Arm(3)
	wantErrno(t, "Append", d.Append("a", []byte("xy")), api.OK)
	d.Arm(2)
	wantErrno(t, "Append", d.Append("a", []byte("zu")), api.OK)
	d.Arm(-1)
	wantErrno(t, "Append", d.Append("a", []byte("vwxyz")), api.OK)
	d.Arm(0)
	d.Arm(math.MinInt)
	wantErrno(t, "Append", d.Append("a", []byte("a")), api.OK)
	d.Arm(math.MaxInt)
	wantErrno(t, "Append", d.Append("a", []byte("b")), api.OK)
	wantFile(t, d, "a", "xyzuvwxyzab", 0)
	d.Arm(0)
	wantErrno(t, "Append", d.Append("a", []byte("c")), api.ErrDead)
}

func TestABrokenDisk(t *testing.T) {
	d := New()
	lay(t, d, "a", "x", "y")
	d.Arm(0)
	wantErrno(t, "Append", d.Append("b", []byte("z")), api.ErrDead)
	for _, n := range []int{-1, 0, 5} {
		d.Arm(n)
		for _, name := range append([]string{"a", "b", "c"}, noNames...) {
			wantErrno(t, "Append", d.Append(name, nil), api.ErrDead)
			wantErrno(t, "Append", d.Append(name, []byte("x")), api.ErrDead)
			wantErrno(t, "Append", d.Append(name, make([]byte, api.MaxDisk+1)), api.ErrDead)
			wantErrno(t, "Sync", d.Sync(name), api.ErrDead)
			if b, e := d.Read(name); len(b) != 0 || e != api.ErrDead {
				t.Errorf("Read = %q, %d", b, e)
			}
			if size, lasting, e := d.Size(name); size != 0 || lasting != 0 || e != api.ErrDead {
				t.Errorf("Size = %d, %d, %d", size, lasting, e)
			}
			wantErrno(t, "Cut", d.Cut(name, 0), api.ErrDead)
			wantErrno(t, "Cut", d.Cut(name, -1), api.ErrDead)
			wantErrno(t, "Remove", d.Remove(name), api.ErrDead)
			wantErrno(t, "Rename", d.Rename(name, "c"), api.ErrDead)
			wantErrno(t, "Rename", d.Rename("a", name), api.ErrDead)
		}
		wantNames(t, d, "a", "b")
		if !d.Dead() {
			t.Error("Dead = false")
		}
	}
	d.Crash(1)
	if d.Dead() {
		t.Error("Dead behind a Crash")
	}
	wantFile(t, d, "a", "xy", 2)
	wantErrno(t, "Append", d.Append("a", []byte("0123456789")), api.OK)
	d.Arm(1)
	wantErrno(t, "Append", d.Append("a", []byte("xy")), api.ErrDead)
}

// P5.3.

func TestCrash(t *testing.T) {
	for _, x := range []struct {
		keep int
		left string
	}{
		{0, ""}, {1, "u"}, {2, "uv"}, {3, "uvw"}, {4, ""}, {5, "u"}, {7, "uvw"}, {1 << 40, ""},
		{math.MaxInt, "uvw"}, // 2^63 - 1
		{-1, "uvw"},          // 2^64 - 1
		{-2, "uv"}, {-4, ""}, // 2^64 - 2, 2^64 - 4
		{math.MinInt, ""},       // 2^63
		{math.MinInt + 1, "u"},  // 2^63 + 1
		{math.MaxInt - 1, "uv"}, // 2^63 - 2
	} {
		d := New()
		lay(t, d, "a", "xyz", "uvw")
		d.Crash(x.keep)
		wantFile(t, d, "a", "xyz"+x.left, 3+len(x.left))
		d.Crash(0)
		wantFile(t, d, "a", "xyz"+x.left, 3+len(x.left))
	}
	// 2^64 - 1 is a multiple of 3, and 2^63 is 2 above one: what is below 0 isn't taken by its sign.
	for keep, left := range map[int]string{-1: "", -2: "uv", math.MinInt: "uv", math.MaxInt: "u"} {
		d := New()
		lay(t, d, "a", "", "uv")
		d.Crash(keep)
		wantFile(t, d, "a", left, len(left))
	}
}

func TestCrashOfSeveralFiles(t *testing.T) {
	d := New()
	lay(t, d, "a", "0", "")
	lay(t, d, "b", "0", "1")
	lay(t, d, "c", "", "12")
	lay(t, d, "d", "0", "123")
	lay(t, d, "e", "", "12345678")
	d.Crash(5)
	wantNames(t, d, "a", "b", "c", "d", "e")
	wantFile(t, d, "a", "0", 1)
	wantFile(t, d, "b", "01", 2)
	wantFile(t, d, "c", "12", 2)
	wantFile(t, d, "d", "01", 2)
	wantFile(t, d, "e", "12345", 5)
}

func TestCrashDisarms(t *testing.T) {
	d := New()
	d.Arm(0)
	d.Crash(0)
	wantErrno(t, "Append", d.Append("a", []byte("xyz")), api.OK)
	d.Arm(1)
	wantErrno(t, "Append", d.Append("a", []byte("uv")), api.ErrDead)
	d.Crash(-1)
	wantErrno(t, "Append", d.Append("a", []byte("w")), api.OK)
	if d.Dead() {
		t.Error("Dead = true")
	}
}

// P5.4, and all of the chapter at drawn calls: a disk is held against the chapter's words, byte by byte.

// cell is a byte that stands in a file.
type cell struct {
	value byte
	lasts bool
}

// words is a disk as the chapter tells it.
type words struct {
	files map[string][]cell
	fuse  int
	dead  bool
}

func (m *words) append(name string, b []byte) api.Errno {
	for i, x := range b {
		if i == m.fuse {
			m.dead = true
			b = b[:i]
			break
		}
		m.files[name] = append(m.files[name], cell{x, false})
	}
	if m.fuse >= 0 {
		m.fuse -= len(b)
	}
	m.files[name] = append([]cell{}, m.files[name]...)
	if m.dead {
		return api.ErrDead
	}
	return api.OK
}

func (m *words) makeLast(name string) {
	for i := range m.files[name] {
		m.files[name][i].lasts = true
	}
}

func (m *words) crash(keep uint64) {
	for name, cells := range m.files {
		var lasting, loose []cell
		for _, c := range cells {
			if c.lasts {
				lasting = append(lasting, c)
			} else {
				loose = append(loose, c)
			}
		}
		m.files[name] = append(lasting, loose[:keep%uint64(len(loose)+1)]...)
		m.makeLast(name)
	}
	m.fuse, m.dead = -1, false
}

// do is a drawn call of both; false: they answer unlike errors.
func (m *words) do(d *Disk, draw *rand.Rand, names []string) (string, bool) {
	name, other := names[draw.Intn(len(names))], names[draw.Intn(len(names))]
	cells, there := m.files[name]
	want := api.OK
	if !there {
		want = api.ErrNone
	}
	if m.dead {
		want = api.ErrDead
	}
	switch kind := draw.Intn(16); kind {
	default:
		b := make([]byte, draw.Intn(6))
		draw.Read(b)
		if !m.dead {
			want = m.append(name, b)
		}
		return "Append", d.Append(name, b) == want
	case 0, 1, 2:
		if want == api.OK {
			m.makeLast(name)
		}
		return "Sync", d.Sync(name) == want
	case 3:
		n := draw.Intn(8)
		if want == api.OK && n > len(cells) {
			want = api.ErrArg
		}
		if want == api.OK {
			m.files[name] = cells[:n:n]
		}
		return "Cut", d.Cut(name, n) == want
	case 4:
		if want == api.OK {
			delete(m.files, name)
		}
		return "Remove", d.Remove(name) == want
	case 5:
		if want == api.OK && name != other {
			m.makeLast(name)
			m.files[other] = m.files[name]
			delete(m.files, name)
		}
		return "Rename", d.Rename(name, other) == want
	case 6, 7:
		n := draw.Intn(12) - 2
		if !m.dead {
			m.fuse = max(n, -1)
		}
		d.Arm(n)
		return "Arm", true
	case 8:
		keep := int(draw.Uint64()) >> draw.Intn(64)
		m.crash(uint64(keep))
		d.Crash(keep)
		return "Crash", true
	}
}

// fits holds a disk against the words, in all that can be asked.
func (m *words) fits(d *Disk, names []string) bool {
	var there []string
	for _, name := range names {
		cells, ok := m.files[name]
		want := api.OK
		if ok {
			there = append(there, name)
		} else {
			want = api.ErrNone
		}
		if m.dead {
			want, cells = api.ErrDead, nil
		}
		var text []byte
		lasting := 0
		for _, c := range cells {
			text = append(text, c.value)
			if c.lasts {
				lasting++
			}
		}
		b, e := d.Read(name)
		size, synced, e2 := d.Size(name)
		if !bytes.Equal(b, text) || e != want || size != len(text) || synced != lasting || e2 != want {
			return false
		}
	}
	return slices.Equal(d.Names(), there) && d.Dead() == m.dead
}

func TestDrawnCalls(t *testing.T) {
	names := []string{"a", "b", "b~", "c"}
	for seed := range int64(300) {
		draw := rand.New(rand.NewSource(seed))
		d, m := New(), &words{files: map[string][]cell{}, fuse: -1}
		for i := range 200 {
			call, same := m.do(d, draw, names)
			if !same || !m.fits(d, names) {
				t.Fatalf("seed %d: call %d, %s: it isn't as the words say", seed, i, call)
			}
		}
	}
}

// TestWhatLasts: behind drawn calls and a Crash each file has the bytes that lasted, and a beginning of those behind.
func TestWhatLasts(t *testing.T) {
	names := []string{"a", "b", "c"}
	for seed := range int64(300) {
		draw := rand.New(rand.NewSource(seed))
		d, m := New(), &words{files: map[string][]cell{}, fuse: -1}
		for range draw.Intn(60) {
			m.do(d, draw, names)
		}
		keep := int(draw.Uint64())
		d.Crash(keep)
		for _, name := range d.Names() {
			got, e := d.Read(name)
			cells := m.files[name]
			if e != api.OK || len(got) > len(cells) {
				t.Fatalf("seed %d: Read = %q, %d", seed, got, e)
			}
			for i, c := range cells {
				if i >= len(got) && c.lasts || i < len(got) && got[i] != c.value {
					t.Fatalf("seed %d: byte %d of %s", seed, i, name)
				}
			}
		}
		if len(d.Names()) != len(m.files) || d.Dead() {
			t.Fatalf("seed %d: Names = %q, Dead = %v", seed, d.Names(), d.Dead())
		}
	}
}

// The rules that hold everywhere.

func TestNil(t *testing.T) {
	var d *Disk
	for _, name := range append([]string{"a"}, noNames...) {
		wantErrno(t, "Append", d.Append(name, []byte("x")), api.ErrState)
		wantErrno(t, "Sync", d.Sync(name), api.ErrState)
		if b, e := d.Read(name); len(b) != 0 || e != api.ErrState {
			t.Errorf("Read = %q, %d", b, e)
		}
		if size, lasting, e := d.Size(name); size != 0 || lasting != 0 || e != api.ErrState {
			t.Errorf("Size = %d, %d, %d", size, lasting, e)
		}
		wantErrno(t, "Cut", d.Cut(name, -1), api.ErrState)
		wantErrno(t, "Remove", d.Remove(name), api.ErrState)
		wantErrno(t, "Rename", d.Rename(name, name), api.ErrState)
	}
	wantNames(t, d)
	d.Arm(0)
	d.Crash(1)
	if d.Dead() {
		t.Error("Dead of nil")
	}
}

func TestZero(t *testing.T) {
	var d Disk
	wantNames(t, &d)
	wantErrno(t, "Sync", d.Sync("a"), api.ErrNone)
	wantErrno(t, "Remove", d.Remove("a"), api.ErrNone)
	wantErrno(t, "Rename", d.Rename("a", "b"), api.ErrNone)
	d.Crash(3)
	lay(t, &d, "a", "xyz", "uvw")
	wantFile(t, &d, "a", "xyzuvw", 3)
}

func TestTwoDisksAreApart(t *testing.T) {
	one, two := New(), New()
	lay(t, one, "a", "x", "y")
	wantNames(t, two)
	one.Arm(0)
	wantErrno(t, "Append", two.Append("a", []byte("z")), api.OK)
	wantErrno(t, "Append", one.Append("a", []byte("z")), api.ErrDead)
	if two.Dead() {
		t.Error("both broke")
	}
}

func TestSharesNothing(t *testing.T) {
	d := New()
	whole := []byte("xyzuvw")
	wantErrno(t, "Append", d.Append("a", whole[:3]), api.OK)
	wantErrno(t, "Append", d.Append("b", whole[:3]), api.OK)
	wantErrno(t, "Append", d.Append("a", []byte("123")), api.OK)
	if string(whole) != "xyzuvw" {
		t.Errorf("Append changed what it was handed: %q", whole)
	}
	clear(whole)
	wantFile(t, d, "a", "xyz123", 0)
	wantFile(t, d, "b", "xyz", 0)

	one, _ := d.Read("a")
	two, _ := d.Read("a")
	clear(one[:cap(one)])
	if string(two) != "xyz123" {
		t.Error("two answers of Read share memory")
	}
	wantErrno(t, "Append", d.Append("a", []byte("456")), api.OK)
	wantErrno(t, "Cut", d.Cut("a", 2), api.OK)
	wantErrno(t, "Append", d.Append("a", []byte("789")), api.OK)
	if string(two) != "xyz123" {
		t.Error("Read's answer is changed by later calls")
	}
	wantFile(t, d, "a", "xy789", 0)

	names := d.Names()
	clear(names[:cap(names)])
	wantNames(t, d, "a", "b")
}
