package frame

import (
	"bytes"
	"encoding/binary"
	"hash/crc32"
	"math/rand"
	"slices"
	"testing"

	"penstock/api"
)

// framed is a frame as the chapter tells its form.
func framed(payload []byte) []byte {
	b := binary.LittleEndian.AppendUint32(nil, uint32(len(payload)))
	b = binary.LittleEndian.AppendUint32(b, crc32.Checksum(payload, crc32.MakeTable(crc32.Castagnoli)))
	return append(b, payload...)
}

func drawn(draw *rand.Rand, n int) []byte {
	b := make([]byte, n)
	draw.Read(b)
	return b
}

func wantDecoded(t *testing.T, f *Framer, b, payload []byte, size int, e api.Errno) {
	t.Helper()
	got, gotSize, gotE := f.Decode(b)
	if !bytes.Equal(got, payload) || gotSize != size || gotE != e {
		t.Errorf("Decode = %d bytes, %d, %d; want %d bytes, %d, %d", len(got), gotSize, gotE, len(payload), size, e)
	}
}

func wantScanned(t *testing.T, f *Framer, b []byte, payloads [][]byte, size int, e api.Errno) {
	t.Helper()
	got, gotSize, gotE := f.Scan(b)
	if !slices.EqualFunc(got, payloads, bytes.Equal) || gotSize != size || gotE != e {
		t.Fatalf("Scan = %d payloads, %d, %d; want %d payloads, %d, %d", len(got), gotSize, gotE, len(payloads), size, e)
	}
}

func TestExample(t *testing.T) {
	f := New()
	none, e := f.Encode(nil)
	if e != api.OK || !bytes.Equal(none, make([]byte, 8)) {
		t.Errorf("Encode of none = %v, %d", none, e)
	}
	wantDecoded(t, f, none[:7], nil, 0, api.ErrEnd)
	two := make([]byte, 16)
	wantScanned(t, f, two, [][]byte{{}, {}}, 16, api.OK)
	wantScanned(t, f, two[:15], [][]byte{{}}, 8, api.ErrEnd)
}

// P4.1.

func TestEncodeAndDecode(t *testing.T) {
	f := New()
	draw := rand.New(rand.NewSource(1))
	for _, n := range []int{0, 1, 2, 7, 8, 9, 255, 256, 257, 4095, 4096} {
		payload := drawn(draw, n)
		b, e := f.Encode(payload)
		if e != api.OK || !bytes.Equal(b, framed(payload)) {
			t.Errorf("Encode of %d bytes: error %d, %d bytes that aren't the form", n, e, len(b))
		}
		wantDecoded(t, f, b, payload, n+8, api.OK)
		wantDecoded(t, f, append(slices.Clone(b), 1, 2, 3), payload, n+8, api.OK)
		wantDecoded(t, New(), b, payload, n+8, api.OK)
	}
	b, e := f.Encode([]byte("123456789"))
	if e != api.OK || !bytes.Equal(b, append([]byte{9, 0, 0, 0, 0x83, 0x92, 0x06, 0xe3}, "123456789"...)) {
		t.Errorf("Encode of 123456789 = %v, %d", b, e)
	}
}

func TestEncodeTooLong(t *testing.T) {
	f := New()
	for _, n := range []int{4097, 4098, 1 << 16, 1 << 20} {
		if b, e := f.Encode(make([]byte, n)); e != api.ErrLong || len(b) != 0 {
			t.Errorf("Encode of %d bytes = %d bytes, %d", n, len(b), e)
		}
	}
	if b, e := f.Encode([]byte("a")); e != api.OK || !bytes.Equal(b, framed([]byte("a"))) {
		t.Errorf("Encode behind a refused one = %v, %d", b, e)
	}
}

func TestDecodeCutAnywhere(t *testing.T) {
	f := New()
	for _, n := range []int{0, 1, 100, 4096} {
		b := framed(drawn(rand.New(rand.NewSource(2)), n))
		for cut := range b {
			wantDecoded(t, f, b[:cut], nil, 0, api.ErrEnd)
		}
	}
	wantDecoded(t, f, nil, nil, 0, api.ErrEnd)
	wantDecoded(t, f, []byte{}, nil, 0, api.ErrEnd)
}

// TestDecodeOrderOfErrors: fewer than eight bytes come ahead of a length that is too great, that one ahead of too few bytes, these ahead of the sum.
func TestDecodeOrderOfErrors(t *testing.T) {
	f := New()
	for _, length := range []uint32{4097, 4098, 1 << 16, 1<<31 - 8, 1<<31 - 1, 1 << 31, 1<<32 - 8, 1<<32 - 1} {
		b := binary.LittleEndian.AppendUint32(nil, length)
		wantDecoded(t, f, b, nil, 0, api.ErrEnd)
		b = append(b, 1, 2, 3)
		wantDecoded(t, f, b, nil, 0, api.ErrEnd)
		b = append(b, 4)
		wantDecoded(t, f, b, nil, 0, api.ErrLong)
		wantDecoded(t, f, append(b, make([]byte, 5000)...), nil, 0, api.ErrLong)
	}
	long := make([]byte, 4097)
	wantDecoded(t, f, framed(long), nil, 0, api.ErrLong)
	wrong := framed([]byte("abc"))
	wrong[4]++
	wantDecoded(t, f, wrong[:10], nil, 0, api.ErrEnd)
	wantDecoded(t, f, wrong, nil, 0, api.ErrCrc)
	wantDecoded(t, f, append(wrong, make([]byte, 20)...), nil, 0, api.ErrCrc)
	most := framed(make([]byte, 4096))
	wantDecoded(t, f, most[:len(most)-1], nil, 0, api.ErrEnd)
	most[8] = 1
	wantDecoded(t, f, most, nil, 0, api.ErrCrc)
}

// P4.2, P4.3.

// row is frames behind one another: their payloads, their bytes, and where each of them ends.
type row struct {
	payloads [][]byte
	text     []byte
	ends     []int
}

func rowOf(payloads ...[]byte) row {
	r := row{payloads: payloads}
	for _, p := range payloads {
		r.text = append(r.text, framed(p)...)
		r.ends = append(r.ends, len(r.text))
	}
	return r
}

// upTo is how many of the row's frames end at a place or ahead of it, and where the last one of these ends.
func (r row) upTo(place int) (int, int) {
	count, end := 0, 0
	for _, e := range r.ends {
		if e <= place {
			count, end = count+1, e
		}
	}
	return count, end
}

func drawnRow(draw *rand.Rand) row {
	payloads := make([][]byte, 1+draw.Intn(5))
	for i := range payloads {
		payloads[i] = drawn(draw, draw.Intn(40))
	}
	return rowOf(payloads...)
}

func TestScanOfWholeFrames(t *testing.T) {
	f := New()
	wantScanned(t, f, nil, nil, 0, api.OK)
	wantScanned(t, f, []byte{}, nil, 0, api.OK)
	draw := rand.New(rand.NewSource(4))
	for _, r := range []row{
		rowOf(nil),
		rowOf([]byte("a")),
		rowOf([]byte("a"), nil, []byte("bc"), nil),
		rowOf(drawn(draw, 4096), drawn(draw, 4096), drawn(draw, 4095)),
		rowOf(make([][]byte, 1000)...),
	} {
		wantScanned(t, f, r.text, r.payloads, len(r.text), api.OK)
	}
}

func TestScanOfAnyBeginning(t *testing.T) {
	f := New()
	draw := rand.New(rand.NewSource(6))
	for range 40 {
		r := drawnRow(draw)
		for cut := range len(r.text) + 1 {
			count, end := r.upTo(cut)
			e := api.ErrEnd
			if end == cut {
				e = api.OK
			}
			wantScanned(t, f, r.text[:cut], r.payloads[:count], end, e)
		}
	}
}

// turnedBits is bytes in which a burst is turned about: from a bit on, those that the pattern has.
func turnedBits(b []byte, bit int, pattern uint32) []byte {
	b = slices.Clone(b)
	for i := range 32 {
		if pattern>>i&1 == 1 {
			b[(bit+i)/8] ^= 1 << ((bit + i) % 8)
		}
	}
	return b
}

func TestScanOfTurnedBits(t *testing.T) {
	f := New()
	draw := rand.New(rand.NewSource(7))
	for range 300 {
		r := drawnRow(draw)
		for i, p := range r.payloads {
			ahead, end := 0, r.ends[i]
			if i > 0 {
				ahead = r.ends[i-1]
			}
			for _, span := range [][2]int{{ahead + 4, ahead + 8}, {end - len(p), end}} {
				bits := (span[1] - span[0]) * 8
				for range min(bits, 20) {
					at := draw.Intn(bits)
					length := 1 + draw.Intn(min(32, bits-at))
					pattern := draw.Uint32()>>(32-length) | 1 | 1<<(length-1)
					wantScanned(t, f, turnedBits(r.text, span[0]*8+at, pattern), r.payloads[:i], ahead, api.ErrCrc)
				}
			}
		}
	}
}

func TestScanOfEachTurnedBit(t *testing.T) {
	f := New()
	r := rowOf([]byte("ab"), []byte("cdefg"), nil, []byte("h"))
	for bit := range len(r.text) * 8 {
		count, end := r.upTo(bit / 8)
		if bit/8-end < 4 {
			continue // within a length, of which nothing is promised
		}
		wantScanned(t, f, turnedBits(r.text, bit, 1), r.payloads[:count], end, api.ErrCrc)
	}
}

func TestScanEndsAtEachError(t *testing.T) {
	f := New()
	good := rowOf([]byte("ab"), nil)
	long := binary.LittleEndian.AppendUint32(nil, 4097)
	wrong := framed([]byte("cd"))
	wrong[9]++
	next := framed([]byte("ef"))
	for _, x := range []struct {
		behind []byte
		e      api.Errno
	}{
		{[]byte{1}, api.ErrEnd},
		{long, api.ErrEnd},
		{append(slices.Clone(long), 0, 0, 0, 0), api.ErrLong},
		{framed(make([]byte, 4097)), api.ErrLong},
		{next[:9], api.ErrEnd},
		{wrong[:9], api.ErrEnd},
		{wrong, api.ErrCrc},
		{slices.Concat(wrong, next), api.ErrCrc},
	} {
		wantScanned(t, f, slices.Concat(good.text, x.behind), good.payloads, len(good.text), x.e)
		wantScanned(t, f, x.behind, nil, 0, x.e)
	}
}

// The rules that hold everywhere.

func TestNilAndZero(t *testing.T) {
	var none *Framer
	if b, e := none.Encode([]byte("a")); len(b) != 0 || e != api.ErrState {
		t.Errorf("Encode of nil = %v, %d", b, e)
	}
	if b, e := none.Encode(make([]byte, 4097)); len(b) != 0 || e != api.ErrState {
		t.Errorf("Encode of nil = %v, %d", b, e)
	}
	for _, b := range [][]byte{nil, {1}, make([]byte, 16)} {
		wantDecoded(t, none, b, nil, 0, api.ErrState)
		wantScanned(t, none, b, nil, 0, api.ErrState)
	}
	var zero Framer
	text := framed([]byte("a"))
	wantDecoded(t, &zero, text, []byte("a"), 9, api.OK)
	wantScanned(t, &zero, text, [][]byte{[]byte("a")}, 9, api.OK)
}

func TestSharesNothing(t *testing.T) {
	f := New()
	whole := []byte("abcdefghijklmnop")
	b, _ := f.Encode(whole[:3])
	if string(whole) != "abcdefghijklmnop" {
		t.Error("Encode changed what it was handed")
	}
	clear(whole)
	if !bytes.Equal(b, framed([]byte("abc"))) {
		t.Error("Encode's answer shares memory with what it was handed")
	}
	other, _ := f.Encode([]byte("abc"))
	clear(b[:cap(b)])
	if !bytes.Equal(other, framed([]byte("abc"))) {
		t.Error("two answers of Encode share memory")
	}

	text := append(framed([]byte("abc")), framed([]byte("def"))...)
	kept := slices.Clone(text)
	one, _, _ := f.Decode(text)
	two, _, _ := f.Decode(text)
	all, _, _ := f.Scan(text)
	if !bytes.Equal(text, kept) {
		t.Error("Decode or Scan changed what it was handed")
	}
	clear(text)
	clear(one[:cap(one)])
	if string(two) != "abc" {
		t.Error("Decode's answer shares memory")
	}
	clear(two[:cap(two)])
	clear(all[0][:cap(all[0])])
	if string(all[1]) != "def" {
		t.Error("Scan's payloads share memory with each other, or with what it was handed")
	}
}

// FuzzScan: what is scanned is framed anew as it stood, and Decode takes no more where Scan has ended.
func FuzzScan(f *testing.F) {
	f.Add(make([]byte, 15))
	f.Add(append(framed([]byte("abc")), 3, 0, 0, 0, 1))
	f.Fuzz(func(t *testing.T, b []byte) {
		frames := New()
		payloads, size, e := frames.Scan(b)
		var again []byte
		for _, p := range payloads {
			one, _ := frames.Encode(p)
			again = append(again, one...)
		}
		if !bytes.Equal(again, b[:size]) {
			t.Fatalf("%v is framed anew as %v", b[:size], again)
		}
		if (e == api.OK) != (size == len(b)) {
			t.Fatalf("size %d of %d, error %d", size, len(b), e)
		}
		if _, _, last := frames.Decode(b[size:]); e != api.OK && last != e {
			t.Fatalf("Scan ends by %d, Decode answers %d", e, last)
		}
	})
}
