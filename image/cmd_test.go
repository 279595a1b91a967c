package image

import (
	"bytes"
	"fmt"
	"math"
	"math/rand"
	"slices"
	"testing"

	"penstock/api"
	"penstock/codec"
)

// P13.1: Encode, Decode.

func wantBack(t *testing.T, c api.Cmd, want []byte) {
	t.Helper()
	text, e := Encode(c)
	if e != api.OK || want != nil && !bytes.Equal(text, want) {
		t.Errorf("Encode(%+v) = %d, %d, want %d", c, text, e, want)
	}
	got, e := Decode(text)
	if e != api.OK || fmt.Sprint(got) != fmt.Sprint(c) {
		t.Errorf("Decode(%d) = %+v, %d, want %+v", text, got, e, c)
	}
}

func TestCommandsAsBytes(t *testing.T) {
	wantBack(t, join(1, 2), []byte{2, 2, 0, 4, 0, 0})
	wantBack(t, fence(4), []byte{4, 8, 0, 0, 0, 0})
	wantBack(t, isr(3, 1, 5, 6, 0, 1, 2), []byte{6, 2, 6, 10, 12, 3, 0, 2, 4})
	wantBack(t, move(2, 1), []byte{8, 0, 4, 0, 0, 1, 2})
	wantBack(t, block(3), []byte{10, 6, 0, 0, 0, 0})
	// Whether an image has these doesn't count here.
	wantBack(t, api.Cmd{Kind: api.CJoin, Node: -1, Part: 100, Epoch: -2, Version: -64, List: []int{3, 3, -1, 0, 9}},
		[]byte{2, 1, 200, 1, 3, 127, 5, 6, 6, 1, 0, 18})
	for kind := api.CJoin; kind <= api.CBlock; kind++ {
		for _, n := range []int{math.MinInt, -1, 0, 5, math.MaxInt} {
			for count := range api.MaxNodes + 1 {
				wantBack(t, api.Cmd{Kind: kind, Node: n, Part: n / 2, Epoch: n / 3, Version: n / 4, List: slices.Repeat([]int{n}, count)}, nil)
			}
		}
	}
}

func TestEncodeOfNoCommand(t *testing.T) {
	for _, kind := range []int{math.MinInt, -1, 0, 6, 7, math.MaxInt} {
		wantNotEncoded(t, api.Cmd{Kind: kind})
		wantNotEncoded(t, api.Cmd{Kind: kind, List: []int{0}})
	}
	for kind := range 8 {
		for _, count := range []int{6, 7, 4096, 4097} {
			wantNotEncoded(t, api.Cmd{Kind: kind, List: make([]int, count)})
		}
	}
}

func wantNotEncoded(t *testing.T, c api.Cmd) {
	t.Helper()
	if text, e := Encode(c); e != api.ErrArg || len(text) != 0 {
		t.Errorf("Encode(Kind %d, %d in List) = %d, %d, want ErrArg", c.Kind, len(c.List), text, e)
	}
}

// laid is a command's form, whether it is one or not.
func laid(c api.Cmd) []byte {
	w := codec.NewWriter()
	for _, n := range []int{c.Kind, c.Node, c.Part, c.Epoch, c.Version} {
		w.Int(n)
	}
	w.Ints(c.List)
	text, _ := w.Out()
	return text
}

func wantNotDecoded(t *testing.T, text []byte, want api.Errno) {
	t.Helper()
	if c, e := Decode(text); e != want || fmt.Sprint(c) != fmt.Sprint(api.Cmd{}) {
		t.Errorf("Decode(%d) = %+v, %d, want %d", text, c, e, want)
	}
}

func TestDecodeOfNoCommand(t *testing.T) {
	for _, kind := range []int{math.MinInt, -1, 0, 6, 7, math.MaxInt} {
		wantNotDecoded(t, laid(api.Cmd{Kind: kind}), api.ErrArg)
	}
	for kind := range 8 {
		for _, count := range []int{6, 7, 4096} {
			wantNotDecoded(t, laid(api.Cmd{Kind: kind, List: make([]int, count)}), api.ErrArg)
		}
		// Layer 3's error comes first.
		wantNotDecoded(t, laid(api.Cmd{Kind: kind, List: make([]int, 4097)}), api.ErrLong)
		wantNotDecoded(t, append(laid(api.Cmd{Kind: kind}), 0), api.ErrEnd)
		wantNotDecoded(t, append(laid(api.Cmd{Kind: kind, List: make([]int, 6)}), 0), api.ErrEnd)
		wantNotDecoded(t, laid(api.Cmd{Kind: kind})[:5], api.ErrEnd)
	}
}

func TestDecodeOfWrongBytes(t *testing.T) {
	wantNotDecoded(t, nil, api.ErrEnd)
	wantNotDecoded(t, []byte{}, api.ErrEnd)
	for _, c := range []api.Cmd{join(1, 300), isr(3, 1, 500, 600, 0, 1, 2), move(5, 0, 1, 2, 3, 4)} {
		text := laid(c)
		for size := range text {
			wantNotDecoded(t, text[:size], api.ErrEnd)
		}
		wantNotDecoded(t, append(bytes.Clone(text), 0), api.ErrEnd)
		wantNotDecoded(t, append(bytes.Clone(text), text...), api.ErrEnd)
	}
	// A number that isn't in its shortest form, in each place.
	for at := range 6 {
		text := slices.Replace([]byte{2, 0, 0, 0, 0, 0}, at, at+1, 130, 0)
		wantNotDecoded(t, text, api.ErrForm)
	}
	wantNotDecoded(t, []byte{8, 0, 0, 0, 0, 1, 128, 0}, api.ErrForm)
}

// TestDecodeDrawn: what is no command is none, and what is one is so in one form alone.
func TestDecodeDrawn(t *testing.T) {
	draw := rand.New(rand.NewSource(1))
	read := 0
	for range 200000 {
		text := make([]byte, draw.Intn(10))
		for i := range text {
			text[i] = byte(draw.Intn(12))
			if draw.Intn(20) == 0 {
				text[i] = byte(draw.Intn(256))
			}
		}
		if wantOneForm(t, text) {
			read++
		}
	}
	if read < 1000 {
		t.Errorf("only %d commands were drawn", read)
	}
}

func wantOneForm(t *testing.T, text []byte) bool {
	t.Helper()
	c, e := Decode(text)
	if e != api.OK {
		wantNotDecoded(t, text, e)
		return false
	}
	if again, e := Encode(c); e != api.OK || !bytes.Equal(again, text) {
		t.Errorf("Encode(Decode(%d)) = %d, %d", text, again, e)
	}
	return true
}

func FuzzDecode(f *testing.F) {
	f.Add(laid(isr(3, 1, 500, 600, 0, 1, 2)))
	f.Fuzz(func(t *testing.T, text []byte) { wantOneForm(t, text) })
}

func TestCommandsShareNothing(t *testing.T) {
	list := []int{0, 1, 2, 77, 78}[:3]
	c := isr(0, 0, 1, 0, list...)
	c.List = list
	text, _ := Encode(c)
	if got := fmt.Sprint(list[:5]); got != "[0 1 2 77 78]" {
		t.Errorf("Encode has changed the list to %s", got)
	}
	other, _ := Encode(c)
	clear(text)
	if bytes.Equal(text, other) {
		t.Error("two answers of Encode share memory")
	}
	kept := bytes.Clone(other)
	spare := append(other, 9, 9)[:len(other)]
	one, _ := Decode(spare)
	two, _ := Decode(spare)
	if !bytes.Equal(spare[:len(kept)+2], append(bytes.Clone(kept), 9, 9)) {
		t.Errorf("Decode has changed its bytes to %d", spare[:len(kept)+2])
	}
	one.List[0] = 50
	clear(spare)
	if fmt.Sprint(two) != fmt.Sprint(c) {
		t.Errorf("what Decode answers is shared: %+v", two)
	}
}
