package txn

import (
	"bytes"
	"fmt"
	"math"
	"math/rand"
	"slices"
	"testing"

	"penstock/api"
	"penstock/codec"
)

// P15.1: Encode, Decode.

func wantBack(t *testing.T, r api.TxRec, want []byte) {
	t.Helper()
	text, e := Encode(r)
	if e != api.OK || want != nil && !bytes.Equal(text, want) {
		t.Errorf("Encode(%+v) = %d, %d, want %d", r, text, e, want)
	}
	got, e := Decode(text)
	if e != api.OK || fmt.Sprint(got) != fmt.Sprint(r) {
		t.Errorf("Decode(%d) = %+v, %d, want %+v", text, got, e, r)
	}
}

func TestRecordsAsBytes(t *testing.T) {
	wantBack(t, initRec(1, 2, 300, 4), []byte{2, 2, 4, 8, 172, 2, 0, 0})
	wantBack(t, addRec(7, 0, 5), []byte{4, 14, 0, 0, 0, 2, 0, 10, 0})
	wantBack(t, prepRec(0, true), []byte{6, 0, 0, 0, 0, 0, 1})
	wantBack(t, prepRec(0, false), []byte{6, 0, 0, 0, 0, 0, 0})
	wantBack(t, doneRec(3), []byte{8, 6, 0, 0, 0, 0, 0})
	// What a kind doesn't name is kept all the same, and which partitions these are isn't asked.
	wantBack(t, api.TxRec{Kind: api.TDone, Tx: 7, Inc: -1, Pid: 1, Epoch: -64, Parts: []int{9, 9, -1, 0, 64, 3}, Commit: true},
		[]byte{8, 14, 1, 127, 1, 6, 18, 18, 1, 0, 128, 1, 6, 1})
	for kind := api.TInit; kind <= api.TDone; kind++ {
		for n := range api.MaxTxs {
			for _, x := range []int{math.MinInt, -1, 0, 5, math.MaxInt} {
				for count := range 7 {
					wantBack(t, api.TxRec{Kind: kind, Tx: n, Inc: x, Pid: uint64(x), Epoch: x / 2, Parts: slices.Repeat([]int{x}, count), Commit: x > 0}, nil)
				}
			}
		}
	}
}

// noRecords are records that are none, each by one thing.
func noRecords() []api.TxRec {
	var list []api.TxRec
	for _, kind := range []int{math.MinInt, -1, 0, 5, 6, math.MaxInt} {
		list = append(list, api.TxRec{Kind: kind}, api.TxRec{Kind: kind, Tx: 7, Pid: 1, Parts: []int{0}})
	}
	for kind := api.TInit; kind <= api.TDone; kind++ {
		for _, n := range outside(api.MaxTxs) {
			list = append(list, api.TxRec{Kind: kind, Tx: n})
		}
		for _, count := range []int{7, 8, 4096} {
			list = append(list, api.TxRec{Kind: kind, Parts: make([]int, count)})
		}
	}
	return list
}

func TestNoRecords(t *testing.T) {
	for _, r := range noRecords() {
		if text, e := Encode(r); e != api.ErrArg || len(text) != 0 {
			t.Errorf("Encode(Kind %d, Tx %d, %d Parts) = %d, %d, want ErrArg", r.Kind, r.Tx, len(r.Parts), text, e)
		}
		text := laid(r)
		wantNotDecoded(t, text, api.ErrArg)
		// Layer 3's error comes first.
		wantNotDecoded(t, append(bytes.Clone(text), 0), api.ErrEnd)
		wantNotDecoded(t, text[:len(text)-1], api.ErrEnd)
		wantNotDecoded(t, append(text[:len(text)-1:len(text)-1], 2), api.ErrForm)
	}
	long := api.TxRec{Kind: api.TAdd, Parts: make([]int, 4097)}
	if text, e := Encode(long); e != api.ErrArg || len(text) != 0 {
		t.Errorf("Encode(4097 Parts) = %d, %d, want ErrArg", text, e)
	}
	wantNotDecoded(t, laid(long), api.ErrLong)
}

// laid is a record's form, whether it is one or not.
func laid(r api.TxRec) []byte {
	w := codec.NewWriter()
	for _, n := range []int{r.Kind, r.Tx, r.Inc, r.Epoch} {
		w.Int(n)
	}
	w.Uint(r.Pid)
	w.Ints(r.Parts)
	w.Flag(r.Commit)
	text, _ := w.Out()
	return text
}

func wantNotDecoded(t *testing.T, text []byte, want api.Errno) {
	t.Helper()
	if r, e := Decode(text); e != want || fmt.Sprint(r) != fmt.Sprint(api.TxRec{}) {
		t.Errorf("Decode(%d) = %+v, %d, want %d", text, r, e, want)
	}
}

func TestDecodeOfWrongBytes(t *testing.T) {
	wantNotDecoded(t, nil, api.ErrEnd)
	wantNotDecoded(t, []byte{}, api.ErrEnd)
	for _, r := range []api.TxRec{initRec(1, 300, 5000, 998), addRec(7, 0, 1, 2, 3, 4, 5), prepRec(4, true), doneRec(6)} {
		text := laid(r)
		for size := range text {
			wantNotDecoded(t, text[:size], api.ErrEnd)
		}
		wantNotDecoded(t, append(bytes.Clone(text), 0), api.ErrEnd)
		wantNotDecoded(t, append(bytes.Clone(text), text...), api.ErrEnd)
	}
	// A number that isn't in its shortest form, in each place; a flag that is none.
	for at := range 7 {
		text := slices.Replace([]byte{2, 0, 0, 0, 0, 0, 0}, at, at+1, 130, 0)
		wantNotDecoded(t, text, api.ErrForm)
	}
	wantNotDecoded(t, []byte{4, 0, 0, 0, 0, 1, 128, 0, 0}, api.ErrForm)
	wantNotDecoded(t, []byte{2, 0, 0, 0, 0, 0, 2}, api.ErrForm)
	wantNotDecoded(t, []byte{2, 0, 0, 0, 0, 129, 32, 0}, api.ErrLong)
}

// TestDecodeDrawn: what is no record is none, and what is one is so in one form alone.
func TestDecodeDrawn(t *testing.T) {
	draw := rand.New(rand.NewSource(1))
	read := 0
	for range 200000 {
		text := make([]byte, 5+draw.Intn(6))
		for i := range text {
			text[i] = byte(draw.Intn(6))
			if draw.Intn(20) == 0 {
				text[i] = byte(draw.Intn(256))
			}
		}
		if wantOneForm(t, text) {
			read++
		}
	}
	if read < 1000 {
		t.Errorf("only %d records were drawn", read)
	}
}

func wantOneForm(t *testing.T, text []byte) bool {
	t.Helper()
	r, e := Decode(text)
	if e != api.OK {
		wantNotDecoded(t, text, e)
		return false
	}
	if again, e := Encode(r); e != api.OK || !bytes.Equal(again, text) {
		t.Errorf("Encode(Decode(%d)) = %d, %d", text, again, e)
	}
	return true
}

func FuzzDecode(f *testing.F) {
	f.Add(laid(addRec(7, 0, 1, 2, 3, 4, 5)))
	f.Fuzz(func(t *testing.T, text []byte) { wantOneForm(t, text) })
}

func TestRecordsShareNothing(t *testing.T) {
	parts := []int{0, 1, 2, 77, 78}[:3]
	r := addRec(0, parts...)
	r.Parts = parts
	text, _ := Encode(r)
	if got := fmt.Sprint(parts[:5]); got != "[0 1 2 77 78]" {
		t.Errorf("Encode has changed the list to %s", got)
	}
	other, _ := Encode(r)
	clear(text)
	if bytes.Equal(text, other) {
		t.Error("two answers of Encode share memory")
	}
	kept := bytes.Clone(other)
	spare := append(other, 9, 9)[:len(other)]
	one, _ := Decode(spare)
	two, _ := Decode(spare)
	if !bytes.Equal(spare[:len(kept)+2], append(bytes.Clone(kept), 9, 9)) {
		t.Errorf("Decode has changed its bytes to %d", spare[:len(kept)+2])
	}
	one.Parts[0] = 50
	clear(spare)
	if fmt.Sprint(two) != fmt.Sprint(r) {
		t.Errorf("what Decode answers is shared: %+v", two)
	}
}
