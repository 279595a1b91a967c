package crc

import (
	"bytes"
	"hash/crc32"
	"runtime"
	"sync"
	"sync/atomic"
	"testing"
)

// bitwise goes on with a sum as the promise tells it, bit by bit.
func bitwise(sum uint32, b []byte) uint32 {
	register := sum ^ 0xffffffff
	for _, x := range b {
		for bit := range 8 {
			unlike := uint32(x>>bit)&1 != register&1
			register >>= 1
			if unlike {
				register ^= 0x82f63b78
			}
		}
	}
	return register ^ 0xffffffff
}

// pattern is n bytes that look like chance, and are always the same.
func pattern(n int) []byte {
	b := make([]byte, n)
	state := uint32(n) + 1
	for i := range b {
		state = state*1664525 + 1013904223
		b[i] = byte(state >> 24)
	}
	return b
}

func TestExamples(t *testing.T) {
	s := New()
	if got := s.Sum([]byte("123456789")); got != 0xe3069283 {
		t.Errorf("Sum of 123456789 = %x", got)
	}
	if s.Sum(nil) != 0 || s.Sum([]byte{}) != 0 {
		t.Error("Sum of none isn't 0")
	}
	if got := s.More(s.Sum([]byte("1234")), []byte("56789")); got != 0xe3069283 {
		t.Errorf("More of 1234 and 56789 = %x", got)
	}
}

func TestKnownSums(t *testing.T) {
	rising, falling := make([]byte, 32), make([]byte, 32)
	for i := range 32 {
		rising[i], falling[i] = byte(i), byte(31-i)
	}
	s := New()
	for _, x := range []struct {
		text []byte
		sum  uint32
	}{
		{make([]byte, 32), 0x8a9136aa},
		{bytes.Repeat([]byte{0xff}, 32), 0x62a8ab43},
		{rising, 0x46dd794e},
		{falling, 0x113fdb5c},
	} {
		if got := s.Sum(x.text); got != x.sum {
			t.Errorf("Sum(%x) = %x; want %x", x.text, got, x.sum)
		}
	}
}

func TestSumOfShortTexts(t *testing.T) {
	s := New()
	for i := range 256 {
		if text := []byte{byte(i)}; s.Sum(text) != bitwise(0, text) {
			t.Fatalf("Sum(%x) = %x; want %x", text, s.Sum(text), bitwise(0, text))
		}
	}
	for i := range 65536 {
		if text := []byte{byte(i >> 8), byte(i)}; s.Sum(text) != bitwise(0, text) {
			t.Fatalf("Sum(%x) = %x; want %x", text, s.Sum(text), bitwise(0, text))
		}
	}
}

func TestSumOfLongTexts(t *testing.T) {
	s := New()
	castagnoli := crc32.MakeTable(crc32.Castagnoli)
	for _, n := range []int{3, 7, 8, 9, 63, 64, 65, 255, 256, 257, 4096, 70001} {
		text := pattern(n)
		got := s.Sum(text)
		if got != bitwise(0, text) || got != crc32.Checksum(text, castagnoli) {
			t.Errorf("Sum of %d bytes = %x; want %x", n, got, bitwise(0, text))
		}
	}
}

func TestMoreAtEverySplit(t *testing.T) {
	s := New()
	text := pattern(100)
	for i := range len(text) + 1 {
		for j := i; j <= len(text); j++ {
			got := s.More(s.More(s.Sum(text[:i]), text[i:j]), text[j:])
			if got != s.Sum(text) {
				t.Fatalf("split at %d and %d: %x; want %x", i, j, got, s.Sum(text))
			}
		}
	}
}

func TestMoreOfAnySum(t *testing.T) {
	s := New()
	for _, sum := range []uint32{0, 1, 0x7fffffff, 0x80000000, 0xe3069283, 0xfffffffe, 0xffffffff} {
		if s.More(sum, nil) != sum || s.More(sum, []byte{}) != sum {
			t.Errorf("More(%x, none) = %x", sum, s.More(sum, nil))
		}
		for _, n := range []int{1, 2, 5, 300} {
			if got, want := s.More(sum, pattern(n)), bitwise(sum, pattern(n)); got != want {
				t.Errorf("More(%x, %d bytes) = %x; want %x", sum, n, got, want)
			}
		}
	}
	if s.More(0, []byte("123456789")) != s.Sum([]byte("123456789")) {
		t.Error("More(0, b) isn't Sum(b)")
	}
}

func TestZeroTableIsAsNew(t *testing.T) {
	zero, more := &Table{}, &Table{}
	if got := zero.Sum([]byte("123456789")); got != 0xe3069283 {
		t.Errorf("Sum of a zero Table = %x", got)
	}
	if got := more.More(New().Sum([]byte("1234")), []byte("56789")); got != 0xe3069283 {
		t.Errorf("More of a zero Table = %x", got)
	}
}

func TestNilAnswersZero(t *testing.T) {
	var s *Table
	if s.Sum(nil) != 0 || s.Sum([]byte("1")) != 0 || s.More(5, nil) != 0 || s.More(5, []byte("1")) != 0 {
		t.Error("a nil Table answers something else than 0")
	}
}

func TestTextIsNotChanged(t *testing.T) {
	whole := pattern(64)
	kept := bytes.Clone(whole)
	s := New()
	before := s.Sum(whole[8:32])
	s.More(7, whole[8:32])
	if !bytes.Equal(whole, kept) {
		t.Error("the bytes, or the spare room behind them, were changed")
	}
	clear(whole)
	if s.Sum(kept[8:32]) != before {
		t.Error("the same bytes have another sum later")
	}
}

// TestTableIsMadeOnce: when it is first asked, not ahead of that, and not again.
func TestTableIsMadeOnce(t *testing.T) {
	s := New()
	if s.steps != [256]uint32{} {
		t.Error("the table is made ahead of the first question")
	}
	s.Sum(nil)
	if s.steps[128] != polynomial {
		t.Errorf("step 128 of the table = %x", s.steps[128])
	}
	s.steps[1]++
	changed := s.steps
	s.Sum([]byte("123456789"))
	if s.steps != changed {
		t.Error("the table is made a second time")
	}
}

func TestAskedBySeveral(t *testing.T) {
	text := pattern(200)
	want := bitwise(0, text)
	for range 500 {
		s := &Table{}
		var all sync.WaitGroup
		var here atomic.Int64
		for range 4 {
			all.Go(func() {
				// None begins ahead of the others, so that they meet while the table is made.
				here.Add(1)
				for here.Load() < 4 {
					runtime.Gosched()
				}
				if s.Sum(text) != want || s.More(s.Sum(text[:9]), text[9:]) != want {
					t.Error("one of several is told another sum")
				}
			})
		}
		all.Wait()
	}
}
