package codec

import (
	"bytes"
	"encoding/binary"
	"math"
	"math/big"
	"math/rand"
	"slices"
	"testing"

	"penstock/api"
)

// laid is what a new Writer has laid by some calls.
func laid(t *testing.T, calls func(w *Writer)) []byte {
	t.Helper()
	w := NewWriter()
	calls(w)
	b, e := w.Out()
	if e != api.OK {
		t.Fatalf("Out: error %d", e)
	}
	return b
}

func wantLaid(t *testing.T, what string, want []byte, calls func(w *Writer)) {
	t.Helper()
	if b := laid(t, calls); !bytes.Equal(b, want) {
		t.Errorf("%s: laid %v; want %v", what, b, want)
	}
}

func wantState(t *testing.T, r *Reader, place, left int, e api.Errno) {
	t.Helper()
	if gotPlace, gotLeft, gotE := r.State(); gotPlace != place || gotLeft != left || gotE != e {
		t.Errorf("State() = %d, %d, %d; want %d, %d, %d", gotPlace, gotLeft, gotE, place, left, e)
	}
	end := e
	if e == api.OK && left > 0 {
		end = api.ErrEnd
	}
	if got := r.End(); got != end {
		t.Errorf("End() = %d; want %d", got, end)
	}
	if _, _, gotE := r.State(); gotE != e {
		t.Errorf("End() made the first error %d out of %d", gotE, e)
	}
}

// edges are whole numbers about which the count of bytes, or a sign, changes.
func edges() []uint64 {
	numbers := []uint64{0, 1, 2, 300, math.MaxUint64, math.MaxUint64 - 1}
	for i := range 64 {
		n := uint64(1) << i
		numbers = append(numbers, n-2, n-1, n, n+1, n+2)
	}
	return numbers
}

// repeated is n bytes of one kind, and others behind them.
func repeated(n int, x byte, behind ...byte) []byte {
	return append(bytes.Repeat([]byte{x}, n), behind...)
}

func TestExamples(t *testing.T) {
	wantLaid(t, "Uint 300", []byte{172, 2}, func(w *Writer) { w.Uint(300) })
	wantLaid(t, "Int -1", []byte{1}, func(w *Writer) { w.Int(-1) })
	wantLaid(t, "Bytes ab", []byte{2, 97, 98}, func(w *Writer) { w.Bytes([]byte("ab")) })
	wantLaid(t, "Ints 1, -1", []byte{2, 2, 1}, func(w *Writer) { w.Ints([]int{1, -1}) })

	r := NewReader([]byte{128, 0})
	if n := r.Uint(); n != 0 {
		t.Errorf("Uint of 128 0 = %d", n)
	}
	wantState(t, r, 0, 2, api.ErrForm)
	r = NewReader([]byte{128})
	if n := r.Uint(); n != 0 {
		t.Errorf("Uint of 128 = %d", n)
	}
	wantState(t, r, 0, 1, api.ErrEnd)
	r = NewReader([]byte{5})
	if b := r.Bytes(); len(b) != 0 {
		t.Errorf("Bytes of 5 = %v", b)
	}
	wantState(t, r, 1, 0, api.ErrEnd)
	r = NewReader([]byte{2})
	if r.Flag() {
		t.Error("Flag of 2 is true")
	}
	wantState(t, r, 1, 0, api.ErrForm)
}

// P3.1: the forms.

func TestUintForm(t *testing.T) {
	for _, n := range edges() {
		want := binary.AppendUvarint(nil, n)
		wantLaid(t, "Uint", want, func(w *Writer) { w.Uint(n) })
	}
	wantLaid(t, "the greatest", repeated(9, 255, 1), func(w *Writer) { w.Uint(math.MaxUint64) })
	wantLaid(t, "2^63", repeated(9, 128, 1), func(w *Writer) { w.Uint(1 << 63) })
	wantLaid(t, "2^63 - 1", repeated(8, 255, 127), func(w *Writer) { w.Uint(1<<63 - 1) })
	wantLaid(t, "127", []byte{127}, func(w *Writer) { w.Uint(127) })
	wantLaid(t, "128", []byte{128, 1}, func(w *Writer) { w.Uint(128) })
}

// turned is the whole number that stands for a number with a sign, by the document's row: 0, -1, 1, -2, 2.
func turned(n int) uint64 {
	twice := new(big.Int).Mul(big.NewInt(int64(n)), big.NewInt(2))
	if n < 0 {
		twice.Sub(big.NewInt(-1), twice)
	}
	return twice.Uint64()
}

func TestIntForm(t *testing.T) {
	for i, n := range []int{0, -1, 1, -2, 2, -3, 3} {
		wantLaid(t, "the row", []byte{byte(i)}, func(w *Writer) { w.Int(n) })
	}
	for _, x := range edges() {
		n := int(x)
		want := binary.AppendUvarint(nil, turned(n))
		wantLaid(t, "Int", want, func(w *Writer) { w.Int(n) })
	}
	wantLaid(t, "the least", repeated(9, 255, 1), func(w *Writer) { w.Int(math.MinInt) })
	wantLaid(t, "the greatest", repeated(1, 254, repeated(8, 255, 1)...), func(w *Writer) { w.Int(math.MaxInt) })
}

func TestFlagAndFixedForm(t *testing.T) {
	wantLaid(t, "true", []byte{1}, func(w *Writer) { w.Flag(true) })
	wantLaid(t, "false", []byte{0}, func(w *Writer) { w.Flag(false) })
	wantLaid(t, "Fixed 0", []byte{0, 0, 0, 0}, func(w *Writer) { w.Fixed(0) })
	wantLaid(t, "Fixed", []byte{4, 3, 2, 129}, func(w *Writer) { w.Fixed(0x81020304) })
	wantLaid(t, "Fixed, the greatest", repeated(4, 255), func(w *Writer) { w.Fixed(math.MaxUint32) })
}

func TestBytesForm(t *testing.T) {
	wantLaid(t, "nil", []byte{0}, func(w *Writer) { w.Bytes(nil) })
	wantLaid(t, "none", []byte{0}, func(w *Writer) { w.Bytes([]byte{}) })
	for _, n := range []int{1, 127, 128, 4095, 4096} {
		text := repeated(n, 200)
		want := append(binary.AppendUvarint(nil, uint64(n)), text...)
		wantLaid(t, "Bytes", want, func(w *Writer) { w.Bytes(text) })
	}
}

func TestIntsForm(t *testing.T) {
	wantLaid(t, "nil", []byte{0}, func(w *Writer) { w.Ints(nil) })
	wantLaid(t, "none", []byte{0}, func(w *Writer) { w.Ints([]int{}) })
	for _, n := range []int{1, 127, 128, 4096, 4097, 100000} {
		list := make([]int, n)
		want := binary.AppendUvarint(nil, uint64(n))
		for i := range list {
			list[i] = (i - n/2) * 1000003
			want = binary.AppendUvarint(want, turned(list[i]))
		}
		wantLaid(t, "Ints", want, func(w *Writer) { w.Ints(list) })
	}
}

func TestFormsBehindOneAnother(t *testing.T) {
	w := NewWriter()
	var want []byte
	wantOut := func() {
		t.Helper()
		if b, e := w.Out(); e != api.OK || !bytes.Equal(b, want) {
			t.Fatalf("Out() = %v, %d; want %v", b, e, want)
		}
	}
	wantOut()
	w.Uint(300)
	want = append(want, 172, 2)
	wantOut()
	w.Fixed(7)
	want = append(want, 7, 0, 0, 0)
	wantOut()
	w.Flag(true)
	w.Int(-2)
	want = append(want, 1, 3)
	wantOut()
	w.Ints([]int{0, 64})
	w.Bytes([]byte{9, 8})
	want = append(want, 2, 0, 128, 1, 2, 9, 8)
	wantOut()
	wantOut()
}

func TestWriterOfTooManyBytes(t *testing.T) {
	for _, n := range []int{4097, 4098, 8192, 1 << 20} {
		for _, ahead := range []bool{false, true} {
			w := NewWriter()
			if ahead {
				w.Uint(5)
			}
			w.Bytes(make([]byte, n))
			for range 2 {
				if b, e := w.Out(); e != api.ErrLong || len(b) != 0 {
					t.Errorf("Out behind %d bytes = %v, %d", n, b, e)
				}
				w.Uint(1)
				w.Int(1)
				w.Flag(true)
				w.Fixed(1)
				w.Bytes([]byte("a"))
				w.Ints([]int{1})
			}
		}
	}
}

func TestZeroWriterAndReaderAreEmpty(t *testing.T) {
	var w Writer
	if b, e := w.Out(); e != api.OK || len(b) != 0 {
		t.Errorf("Out of a zero Writer = %v, %d", b, e)
	}
	w.Int(3)
	if b, e := w.Out(); e != api.OK || !bytes.Equal(b, []byte{6}) {
		t.Errorf("Out of a zero Writer = %v, %d", b, e)
	}
	var r Reader
	wantState(t, &r, 0, 0, api.OK)
	if n := r.Uint(); n != 0 {
		t.Errorf("Uint of a zero Reader = %d", n)
	}
	wantState(t, &r, 0, 0, api.ErrEnd)
}

// P3.2: numbers.

func TestUintTaken(t *testing.T) {
	for _, n := range edges() {
		text := binary.AppendUvarint(nil, n)
		r := NewReader(append(slices.Clone(text), 77))
		if got := r.Uint(); got != n {
			t.Errorf("Uint of %v = %d; want %d", text, got, n)
		}
		wantState(t, r, len(text), 1, api.OK)
		for cut := range text {
			r := NewReader(text[:cut])
			if got := r.Uint(); got != 0 {
				t.Errorf("Uint of %v = %d", text[:cut], got)
			}
			wantState(t, r, 0, cut, api.ErrEnd)
		}
	}
}

func TestUintRefused(t *testing.T) {
	for _, x := range []struct {
		text []byte
		e    api.Errno
	}{
		{nil, api.ErrEnd},
		{[]byte{}, api.ErrEnd},
		{[]byte{255}, api.ErrEnd},
		{repeated(9, 128), api.ErrEnd},
		{repeated(9, 255), api.ErrEnd},
		{[]byte{128, 0}, api.ErrForm},
		{[]byte{255, 0}, api.ErrForm},
		{[]byte{129, 0, 5}, api.ErrForm},
		{[]byte{128, 128, 0}, api.ErrForm},
		{repeated(8, 255, 0), api.ErrForm},
		{repeated(9, 255, 0), api.ErrForm},
		{repeated(9, 128, 2), api.ErrForm},
		{repeated(9, 255, 2), api.ErrForm},
		{repeated(9, 255, 3, 7), api.ErrForm},
		{repeated(9, 128, 127), api.ErrForm},
		{repeated(10, 128), api.ErrForm},
		{repeated(9, 128, 129), api.ErrForm},
		{repeated(10, 128, 0), api.ErrForm},
		{repeated(10, 128, 1), api.ErrForm},
		{repeated(11, 255, 1), api.ErrForm},
		{repeated(100, 255), api.ErrForm},
	} {
		for numbers, ahead := range [][]byte{{}, {3}, {3, 172, 2}} {
			r := NewReader(slices.Concat(ahead, x.text))
			for range numbers {
				r.Uint()
			}
			if n := r.Uint(); n != 0 {
				t.Errorf("Uint of %v = %d", x.text, n)
			}
			wantState(t, r, len(ahead), len(x.text), x.e)
			r = NewReader(x.text)
			if n := r.Int(); n != 0 {
				t.Errorf("Int of %v = %d", x.text, n)
			}
			wantState(t, r, 0, len(x.text), x.e)
			r = NewReader(x.text)
			if r.Flag() {
				t.Errorf("Flag of %v is true", x.text)
			}
			wantState(t, r, 0, len(x.text), x.e)
			r = NewReader(x.text)
			if b := r.Bytes(); len(b) != 0 {
				t.Errorf("Bytes of %v = %v", x.text, b)
			}
			wantState(t, r, 0, len(x.text), x.e)
			r = NewReader(x.text)
			if l := r.Ints(); len(l) != 0 {
				t.Errorf("Ints of %v = %v", x.text, l)
			}
			wantState(t, r, 0, len(x.text), x.e)
		}
	}
}

func TestGreatestNumbersTaken(t *testing.T) {
	r := NewReader(slices.Concat(repeated(9, 255, 1), repeated(9, 128, 1), repeated(9, 255, 1), repeated(1, 254, repeated(8, 255, 1)...)))
	if n := r.Uint(); n != math.MaxUint64 {
		t.Errorf("the greatest = %d", n)
	}
	if n := r.Uint(); n != 1<<63 {
		t.Errorf("2^63 = %d", n)
	}
	if n := r.Int(); n != math.MinInt {
		t.Errorf("the least int = %d", n)
	}
	if n := r.Int(); n != math.MaxInt {
		t.Errorf("the greatest int = %d", n)
	}
	wantState(t, r, 40, 0, api.OK)
}

func TestFlagTaken(t *testing.T) {
	r := NewReader([]byte{0, 1, 0})
	if r.Flag() || !r.Flag() || r.Flag() {
		t.Error("flags aren't taken as they were laid")
	}
	wantState(t, r, 3, 0, api.OK)
	for _, n := range []uint64{2, 3, 127, 128, 256, 257, 1 << 32, 1<<32 + 1, math.MaxUint64} {
		text := binary.AppendUvarint(nil, n)
		r := NewReader(append(slices.Clone(text), 1, 1))
		if r.Flag() {
			t.Errorf("Flag of %v is true", text)
		}
		wantState(t, r, len(text), 2, api.ErrForm)
		if r.Flag() {
			t.Error("a flag is taken behind an error")
		}
		wantState(t, r, len(text), 2, api.ErrForm)
	}
}

func TestFixedTaken(t *testing.T) {
	text := []byte{4, 3, 2, 129, 255, 255, 255, 255, 1}
	r := NewReader(text)
	if n := r.Fixed(); n != 0x81020304 {
		t.Errorf("Fixed = %x", n)
	}
	wantState(t, r, 4, 5, api.OK)
	if n := r.Fixed(); n != math.MaxUint32 {
		t.Errorf("Fixed = %x", n)
	}
	if n := r.Fixed(); n != 0 {
		t.Errorf("Fixed of one byte = %x", n)
	}
	wantState(t, r, 8, 1, api.ErrEnd)
	for n := range 4 {
		r := NewReader(repeated(n, 1))
		if got := r.Fixed(); got != 0 {
			t.Errorf("Fixed of %d bytes = %x", n, got)
		}
		wantState(t, r, 0, n, api.ErrEnd)
	}
}

// P3.2: counts.

func TestBytesTaken(t *testing.T) {
	for _, n := range []int{0, 1, 127, 128, 4095, 4096} {
		count := binary.AppendUvarint(nil, uint64(n))
		text := repeated(n, 9)
		whole := slices.Concat(count, text, []byte{3})
		r := NewReader(whole)
		if b := r.Bytes(); !bytes.Equal(b, text) {
			t.Errorf("Bytes of %d = %v", n, b)
		}
		wantState(t, r, len(count)+n, 1, api.OK)
		for _, cut := range []int{0, n / 2, n - 1} {
			if cut < 0 || cut >= n {
				continue
			}
			r := NewReader(whole[:len(count)+cut])
			if b := r.Bytes(); len(b) != 0 {
				t.Errorf("Bytes of %d, where there are %d, = %v", n, cut, b)
			}
			wantState(t, r, len(count), cut, api.ErrEnd)
		}
	}
}

func TestCountTooGreat(t *testing.T) {
	for _, n := range []uint64{4097, 4098, 1 << 31, 1 << 32, 1<<32 + 1, 1 << 63, 1<<63 + 1, math.MaxUint64} {
		count := binary.AppendUvarint(nil, n)
		for _, behind := range [][]byte{nil, {1, 1}, make([]byte, 5000)} {
			r := NewReader(slices.Concat(count, behind))
			if b := r.Bytes(); len(b) != 0 {
				t.Errorf("Bytes of the count %d = %v", n, b)
			}
			wantState(t, r, len(count), len(behind), api.ErrLong)
			r = NewReader(slices.Concat(count, behind))
			if l := r.Ints(); len(l) != 0 {
				t.Errorf("Ints of the count %d = %v", n, l)
			}
			wantState(t, r, len(count), len(behind), api.ErrLong)
		}
	}
}

func TestIntsTaken(t *testing.T) {
	for _, n := range []int{0, 1, 127, 128, 4095, 4096} {
		list := make([]int, n)
		text := binary.AppendUvarint(nil, uint64(n))
		for i := range list {
			list[i] = i%128 - 64
			text = append(text, byte(turned(list[i])))
		}
		r := NewReader(append(slices.Clone(text), 3))
		if l := r.Ints(); !slices.Equal(l, list) {
			t.Errorf("Ints of %d = %v", n, l)
		}
		wantState(t, r, len(text), 1, api.OK)
		if n == 0 {
			continue
		}
		r = NewReader(text[:len(text)-1])
		if l := r.Ints(); len(l) != 0 {
			t.Errorf("Ints of %d, the last one cut off, = %v", n, l)
		}
		wantState(t, r, len(text)-1, 0, api.ErrEnd)
	}
}

func TestIntsRefused(t *testing.T) {
	for _, x := range []struct {
		text  []byte
		place int
		e     api.Errno
	}{
		{[]byte{1}, 1, api.ErrEnd},
		{[]byte{3, 2, 172, 2}, 4, api.ErrEnd},
		{[]byte{3, 2, 172, 2, 128}, 4, api.ErrEnd},
		{[]byte{3, 2, 172, 2, 128, 0, 1}, 4, api.ErrForm},
		{[]byte{2, 128, 0, 1}, 1, api.ErrForm},
		{slices.Concat([]byte{2, 6}, repeated(9, 255, 2)), 2, api.ErrForm},
		{[]byte{128, 32, 2, 4}, 4, api.ErrEnd},
	} {
		r := NewReader(x.text)
		if l := r.Ints(); len(l) != 0 {
			t.Errorf("Ints of %v = %v", x.text, l)
		}
		wantState(t, r, x.place, len(x.text)-x.place, x.e)
	}
}

func TestFirstErrorStays(t *testing.T) {
	for _, x := range []struct {
		text  []byte
		call  func(r *Reader)
		place int
		e     api.Errno
	}{
		{[]byte{128, 0}, func(r *Reader) { r.Uint() }, 0, api.ErrForm},
		{[]byte{128}, func(r *Reader) { r.Int() }, 0, api.ErrEnd},
		{[]byte{2}, func(r *Reader) { r.Flag() }, 1, api.ErrForm},
		{[]byte{1, 1, 1}, func(r *Reader) { r.Uint(); r.Fixed() }, 1, api.ErrEnd},
		{[]byte{129, 32}, func(r *Reader) { r.Bytes() }, 2, api.ErrLong},
		{[]byte{129, 32}, func(r *Reader) { r.Ints() }, 2, api.ErrLong},
	} {
		// Behind the fault stands what each call would take, so that one that went on would be seen.
		text := x.text
		if x.e != api.ErrEnd {
			text = append(slices.Clone(text), 1, 1, 1, 1, 1)
		}
		r := NewReader(text)
		x.call(r)
		for range 2 {
			wantState(t, r, x.place, len(text)-x.place, x.e)
			if r.Uint() != 0 || r.Int() != 0 || r.Flag() || r.Fixed() != 0 || len(r.Bytes()) != 0 || len(r.Ints()) != 0 {
				t.Errorf("%v: something is taken behind the first error", text)
			}
		}
	}
}

func TestEndTakesNothing(t *testing.T) {
	r := NewReader([]byte{1, 2})
	wantState(t, r, 0, 2, api.OK)
	if r.Uint() != 1 {
		t.Error("behind End nothing is taken")
	}
	wantState(t, r, 1, 1, api.OK)
	if r.Uint() != 2 {
		t.Error("behind End nothing is taken")
	}
	wantState(t, r, 2, 0, api.OK)
}

// told is the document's words on a whole number, by the place of its last byte: the number, its length, the error.
func told(b []byte) (uint64, int, api.Errno) {
	size := slices.IndexFunc(b, func(x byte) bool { return x < 128 }) + 1
	switch {
	case len(b) >= 10 && (size == 0 || size >= 10) && b[9] > 1:
		return 0, 0, api.ErrForm
	case size == 0:
		return 0, 0, api.ErrEnd
	case size > 1 && b[size-1] == 0:
		return 0, 0, api.ErrForm
	}
	n := new(big.Int)
	for i := size - 1; i >= 0; i-- {
		n.Mul(n, big.NewInt(128)).Add(n, big.NewInt(int64(b[i]%128)))
	}
	return n.Uint64(), size, api.OK
}

func wantTold(t *testing.T, b []byte) {
	t.Helper()
	n, size, e := told(b)
	r := NewReader(b)
	got := r.Uint()
	place, left, gotE := r.State()
	if got != n || place != size || left != len(b)-size || gotE != e {
		t.Fatalf("Uint of %v = %d, State %d, %d, %d; want %d, %d, %d", b, got, place, left, gotE, n, size, e)
	}
}

func TestUintOfAnyBytes(t *testing.T) {
	for i := range 256 {
		wantTold(t, []byte{byte(i)})
		for j := range 256 {
			wantTold(t, []byte{byte(i), byte(j)})
		}
	}
	kinds := []byte{0, 1, 2, 127, 128, 129, 255}
	draw := rand.New(rand.NewSource(3))
	for range 200000 {
		b := make([]byte, draw.Intn(13))
		for i := range b {
			b[i] = byte(draw.Intn(128)) + 128
			if draw.Intn(8) == 0 {
				b[i] = kinds[draw.Intn(len(kinds))]
			}
		}
		wantTold(t, b)
	}
}

// P3.3.

// step is a call that lays something, and one that takes it and tells whether it is the same.
type step struct {
	lay  func(w *Writer)
	same func(r *Reader) bool
}

func drawnStep(draw *rand.Rand) step {
	n := draw.Uint64() >> draw.Intn(64)
	list := make([]int, draw.Intn(20))
	for i := range list {
		list[i] = int(draw.Uint64()) >> draw.Intn(64)
	}
	text := make([]byte, draw.Intn(200))
	draw.Read(text)
	return []step{
		{func(w *Writer) { w.Uint(n) }, func(r *Reader) bool { return r.Uint() == n }},
		{func(w *Writer) { w.Int(int(n)) }, func(r *Reader) bool { return r.Int() == int(n) }},
		{func(w *Writer) { w.Int(-int(n)) }, func(r *Reader) bool { return r.Int() == -int(n) }},
		{func(w *Writer) { w.Flag(n%2 == 1) }, func(r *Reader) bool { return r.Flag() == (n%2 == 1) }},
		{func(w *Writer) { w.Fixed(uint32(n)) }, func(r *Reader) bool { return r.Fixed() == uint32(n) }},
		{func(w *Writer) { w.Bytes(text) }, func(r *Reader) bool { return bytes.Equal(r.Bytes(), text) }},
		{func(w *Writer) { w.Ints(list) }, func(r *Reader) bool { return slices.Equal(r.Ints(), list) }},
	}[draw.Intn(7)]
}

func TestThereAndBack(t *testing.T) {
	draw := rand.New(rand.NewSource(5))
	for range 3000 {
		w := NewWriter()
		steps := make([]step, draw.Intn(30))
		places := make([]int, len(steps))
		for i := range steps {
			steps[i] = drawnStep(draw)
			steps[i].lay(w)
			b, _ := w.Out()
			places[i] = len(b)
		}
		b, e := w.Out()
		if e != api.OK {
			t.Fatalf("Out: error %d", e)
		}
		r := NewReader(b)
		for i, s := range steps {
			if !s.same(r) {
				t.Fatalf("step %d of %v isn't taken as it was laid", i, b)
			}
			wantState(t, r, places[i], len(b)-places[i], api.OK)
		}
		wantState(t, r, len(b), 0, api.OK)
	}
}

func TestThereAndBackAtTheEdges(t *testing.T) {
	w := NewWriter()
	text, list := repeated(4096, 255), make([]int, 4096)
	for i := range list {
		list[i] = math.MinInt + i
	}
	for _, n := range edges() {
		w.Uint(n)
		w.Int(int(n))
		w.Fixed(uint32(n))
	}
	w.Bytes(text)
	w.Ints(list)
	b, e := w.Out()
	if e != api.OK {
		t.Fatalf("Out: error %d", e)
	}
	r := NewReader(b)
	for _, n := range edges() {
		if r.Uint() != n || r.Int() != int(n) || r.Fixed() != uint32(n) {
			t.Errorf("%d isn't taken as it was laid", n)
		}
	}
	if !bytes.Equal(r.Bytes(), text) || !slices.Equal(r.Ints(), list) {
		t.Error("4096 of a kind aren't taken as they were laid")
	}
	wantState(t, r, len(b), 0, api.OK)
}

// The rules that hold everywhere.

func TestNil(t *testing.T) {
	var w *Writer
	w.Uint(1)
	w.Int(1)
	w.Flag(true)
	w.Fixed(1)
	w.Bytes([]byte("a"))
	w.Bytes(make([]byte, 4097))
	w.Ints([]int{1})
	if b, e := w.Out(); len(b) != 0 || e != api.ErrState {
		t.Errorf("Out of nil = %v, %d", b, e)
	}
	var r *Reader
	if r.Uint() != 0 || r.Int() != 0 || r.Flag() || r.Fixed() != 0 || len(r.Bytes()) != 0 || len(r.Ints()) != 0 {
		t.Error("a nil Reader takes something")
	}
	wantState(t, r, 0, 0, api.ErrState)
	wantState(t, NewReader(nil), 0, 0, api.OK)
}

func TestWriterSharesNothing(t *testing.T) {
	text := []byte("abcdefgh")
	list := []int{1, 2, 3, 4}
	w := NewWriter()
	w.Bytes(text[:3])
	w.Ints(list[:2])
	want := []byte{3, 'a', 'b', 'c', 2, 2, 4}
	if string(text) != "abcdefgh" || !slices.Equal(list, []int{1, 2, 3, 4}) {
		t.Error("what was handed in was changed")
	}
	clear(text)
	clear(list)
	first, _ := w.Out()
	second, _ := w.Out()
	if !bytes.Equal(first, want) {
		t.Errorf("Out() = %v: what was handed in was kept", first)
	}
	clear(first[:cap(first)])
	w.Uint(9)
	third, _ := w.Out()
	if !bytes.Equal(second, want) || !bytes.Equal(third, append(want, 9)) {
		t.Errorf("answers %v, %v share memory", second, third)
	}
	beyond := slices.Clone(third[:cap(third)])
	w.Uint(10)
	w.Fixed(11)
	if !bytes.Equal(third[:cap(third)], beyond) {
		t.Error("the writer lays behind an answer")
	}
}

func TestReaderSharesNothing(t *testing.T) {
	text := []byte{2, 5, 6, 2, 5, 6, 9, 9}
	kept := slices.Clone(text)
	r := NewReader(text[:6])
	if !bytes.Equal(text, kept) {
		t.Error("what was handed in was changed")
	}
	clear(text)
	first := r.Bytes()
	if !bytes.Equal(first, []byte{5, 6}) {
		t.Errorf("Bytes() = %v: what was handed in was kept", first)
	}
	clear(first[:cap(first)])
	if b := r.Bytes(); !bytes.Equal(b, []byte{5, 6}) {
		t.Errorf("Bytes() = %v: the answer ahead of it shares memory with the reader", b)
	}
	wantState(t, r, 6, 0, api.OK)

	r = NewReader([]byte{1, 4, 1, 4})
	one := r.Ints()
	clear(one[:cap(one)])
	if l := r.Ints(); !slices.Equal(l, []int{2}) {
		t.Errorf("Ints() = %v", l)
	}
}

// FuzzReader: no bytes make a call panic, and the place never goes back or beyond the end.
func FuzzReader(f *testing.F) {
	f.Add([]byte{1, 2, 3}, []byte{172, 2, 1, 5})
	f.Add([]byte{4, 5, 0}, []byte{3, 9, 9, 9, 2, 2, 1, 128})
	f.Fuzz(func(t *testing.T, calls, text []byte) {
		r := NewReader(text)
		at := 0
		for _, c := range calls {
			switch c % 6 {
			case 0:
				r.Uint()
			case 1:
				r.Int()
			case 2:
				r.Flag()
			case 3:
				r.Fixed()
			case 4:
				r.Bytes()
			default:
				r.Ints()
			}
			place, left, _ := r.State()
			if place < at || place+left != len(text) {
				t.Fatalf("place %d, left %d of %d", place, left, len(text))
			}
			at = place
		}
	})
}
