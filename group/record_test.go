package group

import (
	"bytes"
	"fmt"
	"math"
	"math/rand"
	"slices"
	"testing"

	"penstock/api"
	"penstock/codec"
)

// P16.1: Encode, Decode.

func wantBack(t *testing.T, r api.GrRec, want []byte) {
	t.Helper()
	text, e := Encode(r)
	if e != api.OK || want != nil && !bytes.Equal(text, want) {
		t.Errorf("Encode(%+v) = %d, %d, want %d", r, text, e, want)
	}
	got, e := Decode(text)
	if e != api.OK || fmt.Sprint(got) != fmt.Sprint(r) {
		t.Errorf("Decode(%d) = %+v, %d, want %+v", text, got, e, r)
	}
}

func TestRecordsAsBytes(t *testing.T) {
	wantBack(t, genRec(0, 0), []byte{2, 0, 0, 0, 0, 0})
	wantBack(t, genRec(7, 64, 0, 3), []byte{2, 14, 128, 1, 0, 0, 2, 0, 6})
	wantBack(t, offRec(1, 3, 5), []byte{4, 2, 0, 6, 10, 0})
	// What a kind doesn't name is kept all the same.
	wantBack(t, api.GrRec{Kind: api.GOff, Group: 2, Gen: 1, Members: []int{4}, Part: 1, Offset: 2}, []byte{4, 4, 2, 2, 4, 1, 8})
	lists := [][]int{nil, {0}, {5}, {0, 1}, {math.MaxInt}, {0, math.MaxInt}, {0, 1, 2, 3, 4, 5, 6, 7}, {1, 3, 5, 7, 9, 11, 13, 1000}}
	for kind := api.GGen; kind <= api.GOff; kind++ {
		for n := range api.MaxTxs {
			for part := range api.MaxParts {
				for _, x := range []int{0, 1, 300, math.MaxInt} {
					for _, list := range lists {
						wantBack(t, api.GrRec{Kind: kind, Group: n, Gen: x, Members: list, Part: part, Offset: x / 2}, nil)
					}
				}
			}
		}
	}
}

// noRecords are records that are none, each by one thing.
func noRecords() []api.GrRec {
	var list []api.GrRec
	for _, kind := range []int{math.MinInt, -1, 0, 3, 4, math.MaxInt} {
		list = append(list, api.GrRec{Kind: kind}, api.GrRec{Kind: kind, Group: 7, Gen: 1, Members: []int{0}, Part: 3})
	}
	// All of a record counts, whatever its kind uses.
	for kind := api.GGen; kind <= api.GOff; kind++ {
		for _, n := range outside(api.MaxTxs) {
			list = append(list, api.GrRec{Kind: kind, Group: n})
		}
		for _, n := range outside(api.MaxParts) {
			list = append(list, api.GrRec{Kind: kind, Part: n})
		}
		for _, n := range below() {
			list = append(list, api.GrRec{Kind: kind, Gen: n}, api.GrRec{Kind: kind, Offset: n})
		}
		for _, members := range [][]int{
			{-1}, {-1, 0}, {math.MinInt}, {0, -1}, {0, 0}, {3, 3}, {1, 0}, {0, 2, 1}, {0, 1, 2, 3, 4, 5, 7, 6}, {0, 1, 2, 3, 4, 5, 6, 6},
			{0, 1, 2, 3, 4, 5, 6, 7, 8}, {0, 1, 2, 3, 4, 5, 6, 7, 7}, slices.Repeat([]int{1}, 4096),
		} {
			list = append(list, api.GrRec{Kind: kind, Members: members})
		}
	}
	return list
}

func TestNoRecords(t *testing.T) {
	for _, r := range noRecords() {
		if text, e := Encode(r); e != api.ErrArg || len(text) != 0 {
			t.Errorf("Encode(%+v) = %d, %d, want ErrArg", r, text, e)
		}
		text := laid(r)
		wantNotDecoded(t, text, api.ErrArg)
		// Layer 3's error comes first.
		wantNotDecoded(t, append(bytes.Clone(text), 0), api.ErrEnd)
		wantNotDecoded(t, text[:len(text)-1], api.ErrEnd)
	}
	long := api.GrRec{Kind: api.GGen, Members: slices.Repeat([]int{1}, 4097)}
	if text, e := Encode(long); e != api.ErrArg || len(text) != 0 {
		t.Errorf("Encode(4097 Members) = %d, %d, want ErrArg", text, e)
	}
	wantNotDecoded(t, laid(long), api.ErrLong)
}

// laid is a record's form, whether it is one or not.
func laid(r api.GrRec) []byte {
	w := codec.NewWriter()
	for _, n := range []int{r.Kind, r.Group, r.Gen, r.Part, r.Offset} {
		w.Int(n)
	}
	w.Ints(r.Members)
	text, _ := w.Out()
	return text
}

func wantNotDecoded(t *testing.T, text []byte, want api.Errno) {
	t.Helper()
	if r, e := Decode(text); e != want || fmt.Sprint(r) != fmt.Sprint(api.GrRec{}) {
		t.Errorf("Decode(%d) = %+v, %d, want %d", text, r, e, want)
	}
}

func TestDecodeOfWrongBytes(t *testing.T) {
	wantNotDecoded(t, nil, api.ErrEnd)
	wantNotDecoded(t, []byte{}, api.ErrEnd)
	for _, r := range []api.GrRec{genRec(7, 300, 0, 1, 200, 3000), genRec(0, 1), offRec(5, 3, 5000)} {
		text := laid(r)
		for size := range text {
			wantNotDecoded(t, text[:size], api.ErrEnd)
		}
		wantNotDecoded(t, append(bytes.Clone(text), 0), api.ErrEnd)
		wantNotDecoded(t, append(bytes.Clone(text), text...), api.ErrEnd)
	}
	// A number that isn't in its shortest form, in each place.
	for at := range 6 {
		text := slices.Replace([]byte{2, 0, 0, 0, 0, 0}, at, at+1, 130, 0)
		wantNotDecoded(t, text, api.ErrForm)
	}
	wantNotDecoded(t, []byte{2, 0, 0, 0, 0, 1, 128, 0}, api.ErrForm)
	wantNotDecoded(t, []byte{2, 0, 0, 0, 0, 129, 32}, api.ErrLong)
}

// TestDecodeDrawn: what is no record is none, and what is one is so in one form alone.
func TestDecodeDrawn(t *testing.T) {
	draw := rand.New(rand.NewSource(1))
	read := 0
	for range 200000 {
		text := make([]byte, 4+draw.Intn(6))
		for i := range text {
			text[i] = byte(2 * draw.Intn(4)) // mostly numbers from 0 on
			if draw.Intn(20) == 0 {
				text[i] = byte(draw.Intn(256))
			}
		}
		if wantOneForm(t, text) {
			read++
		}
	}
	if read < 1000 {
		t.Errorf("only %d records were drawn", read)
	}
}

func wantOneForm(t *testing.T, text []byte) bool {
	t.Helper()
	r, e := Decode(text)
	if e != api.OK {
		wantNotDecoded(t, text, e)
		return false
	}
	if again, e := Encode(r); e != api.OK || !bytes.Equal(again, text) {
		t.Errorf("Encode(Decode(%d)) = %d, %d", text, again, e)
	}
	return true
}

func FuzzDecode(f *testing.F) {
	f.Add(laid(genRec(7, 300, 0, 1, 200, 3000)))
	f.Fuzz(func(t *testing.T, text []byte) { wantOneForm(t, text) })
}

func TestRecordsShareNothing(t *testing.T) {
	members := []int{0, 1, 2, 77, 78}[:3]
	r := genRec(0, 1)
	r.Members = members
	text, _ := Encode(r)
	if got := fmt.Sprint(members[:5]); got != "[0 1 2 77 78]" {
		t.Errorf("Encode has changed the list to %s", got)
	}
	other, _ := Encode(r)
	clear(text)
	if bytes.Equal(text, other) {
		t.Error("two answers of Encode share memory")
	}
	kept := bytes.Clone(other)
	spare := append(other, 9, 9)[:len(other)]
	one, _ := Decode(spare)
	two, _ := Decode(spare)
	if !bytes.Equal(spare[:len(kept)+2], append(bytes.Clone(kept), 9, 9)) {
		t.Errorf("Decode has changed its bytes to %d", spare[:len(kept)+2])
	}
	one.Members[0] = 50
	clear(spare)
	if fmt.Sprint(two) != fmt.Sprint(r) {
		t.Errorf("what Decode answers is shared: %+v", two)
	}
}
