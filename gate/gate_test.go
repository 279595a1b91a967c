package gate

import (
	"fmt"
	"math"
	"runtime"
	"sync"
	"sync/atomic"
	"testing"
)

const top = math.MaxUint64

// together runs n workers, and waits for them. None begins ahead of the others: who waited for a channel would wake too late to meet them.
func together(n int, work func(worker int)) {
	var all sync.WaitGroup
	var here atomic.Int64
	for w := range n {
		all.Go(func() {
			here.Add(1)
			for here.Load() < int64(n) {
				runtime.Gosched()
			}
			work(w)
		})
	}
	all.Wait()
}

func wantBlock(t *testing.T, c *Counter, n, first uint64, ok bool) {
	t.Helper()
	if gotFirst, gotOk := c.Block(n); gotFirst != first || gotOk != ok {
		t.Errorf("Block(%d) = %d, %v; want %d, %v", n, gotFirst, gotOk, first, ok)
	}
}

func wantNext(t *testing.T, c *Counter, first uint64, ok bool) {
	t.Helper()
	if gotFirst, gotOk := c.Next(); gotFirst != first || gotOk != ok {
		t.Errorf("Next() = %d, %v; want %d, %v", gotFirst, gotOk, first, ok)
	}
}

func wantLeft(t *testing.T, c *Counter, next, left uint64) {
	t.Helper()
	if gotNext, gotLeft := c.Left(); gotNext != next || gotLeft != left {
		t.Errorf("Left() = %d, %d; want %d, %d", gotNext, gotLeft, next, left)
	}
}

func TestCounterExample(t *testing.T) {
	c := New(5, 8)
	wantLeft(t, c, 5, 3)
	wantBlock(t, c, 2, 5, true)
	wantBlock(t, c, 2, 0, false)
	wantNext(t, c, 7, true)
	wantNext(t, c, 0, false)
	wantLeft(t, c, 8, 0)
}

func TestNewBounds(t *testing.T) {
	for _, x := range []struct{ from, limit, next, left uint64 }{
		{0, 0, 0, 0},
		{0, 1, 0, 1},
		{5, 5, 5, 0},
		{6, 5, 5, 0},
		{top, 0, 0, 0},
		{top, 7, 7, 0},
		{top, top, top, 0},
		{top - 1, top, top - 1, 1},
		{0, top, 0, top},
	} {
		c := New(x.from, x.limit)
		wantLeft(t, c, x.next, x.left)
		wantBlock(t, c, 0, 0, false)
		wantLeft(t, c, x.next, x.left)
		if x.left == 0 {
			wantNext(t, c, 0, false)
			wantBlock(t, c, top, 0, false)
		} else {
			wantNext(t, c, x.next, true)
			wantLeft(t, c, x.next+1, x.left-1)
		}
	}
}

func TestBlockRefusedGivesNothingOut(t *testing.T) {
	c := New(10, 20)
	for _, n := range []uint64{0, 11, 12, top - 10, top - 9, top} {
		wantBlock(t, c, n, 0, false)
		wantLeft(t, c, 10, 10)
	}
	wantBlock(t, c, 10, 10, true)
	wantLeft(t, c, 20, 0)
}

func TestBlockNearTheGreatestNumber(t *testing.T) {
	c := New(0, top)
	wantBlock(t, c, top, 0, true)
	wantLeft(t, c, top, 0)
	wantBlock(t, c, 1, 0, false)

	c = New(top-3, top)
	wantBlock(t, c, 4, 0, false)
	wantBlock(t, c, top, 0, false)
	wantBlock(t, c, 3, top-3, true)
	wantLeft(t, c, top, 0)
	wantNext(t, c, 0, false)

	// first + n goes round to a small number here.
	c = New(10, top)
	wantBlock(t, c, top-9, 0, false)
	wantBlock(t, c, top-5, 0, false)
	wantLeft(t, c, 10, top-10)
	wantBlock(t, c, top-10, 10, true)
}

func TestRaise(t *testing.T) {
	for _, x := range []struct{ to, next, left uint64 }{
		{0, 10, 10},
		{9, 10, 10},
		{10, 10, 10},
		{11, 11, 9},
		{19, 19, 1},
		{20, 20, 0},
		{21, 20, 0},
		{top, 20, 0},
	} {
		c := New(10, 20)
		c.Raise(x.to)
		wantLeft(t, c, x.next, x.left)
		c.Raise(0)
		wantLeft(t, c, x.next, x.left)
		if x.left > 0 {
			wantNext(t, c, x.next, true)
		} else {
			wantNext(t, c, 0, false)
		}
	}
	c := New(top-2, top)
	c.Raise(top)
	wantLeft(t, c, top, 0)
}

// store is the counter as the promise tells it: the numbers that are still to be given out.
type store struct {
	limit   uint64
	numbers []uint64
}

func (s *store) block(n uint64) (uint64, bool) {
	if n == 0 || uint64(len(s.numbers)) < n {
		return 0, false
	}
	first := s.numbers[0]
	s.numbers = s.numbers[n:]
	return first, true
}

func (s *store) raise(to uint64) {
	for len(s.numbers) > 0 && s.numbers[0] < to {
		s.numbers = s.numbers[1:]
	}
}

func (s *store) left() (uint64, uint64) {
	if len(s.numbers) == 0 {
		return s.limit, 0
	}
	return s.numbers[0], uint64(len(s.numbers))
}

func newStore(from, limit uint64) *store {
	s := &store{limit: limit}
	for i := from; i < limit; i++ {
		s.numbers = append(s.numbers, i)
	}
	return s
}

// TestCounterAgainstStore goes through all short courses of calls of small counters.
func TestCounterAgainstStore(t *testing.T) {
	const calls, length = 11, 4 // Block(0) to Block(3), Next, Raise(0) to Raise(5)
	courses := 1
	for range length {
		courses *= calls
	}
	for from := range uint64(5) {
		for limit := range uint64(5) {
			for course := range courses {
				c, s := New(from, limit), newStore(from, limit)
				for k, rest := 0, course; k < length; k, rest = k+1, rest/calls {
					if told := stepBoth(c, s, uint64(rest%calls)); told != "" {
						t.Fatalf("New(%d, %d), course %d: %s", from, limit, course, told)
					}
				}
			}
		}
	}
}

// stepBoth does a call on both, and tells in what they are unlike.
func stepBoth(c *Counter, s *store, call uint64) string {
	var got, want uint64
	var gotOk, wantOk bool
	switch {
	case call < 4:
		got, gotOk = c.Block(call)
		want, wantOk = s.block(call)
	case call == 4:
		got, gotOk = c.Next()
		want, wantOk = s.block(1)
	default:
		c.Raise(call - 5)
		s.raise(call - 5)
	}
	next, left := c.Left()
	wantNext, wantLeft := s.left()
	if got != want || gotOk != wantOk || next != wantNext || left != wantLeft {
		return fmt.Sprint("call ", call, ": ", got, gotOk, next, left, "; want ", want, wantOk, wantNext, wantLeft)
	}
	return ""
}

func TestOnce(t *testing.T) {
	o := &Once{}
	if v, ok := o.Value(); v != 0 || ok {
		t.Errorf("Value() of one that was told none = %d, %v", v, ok)
	}
	if v := o.Do(3); v != 3 {
		t.Errorf("Do(3) = %d", v)
	}
	if v := o.Do(4); v != 3 {
		t.Errorf("Do(4) behind Do(3) = %d", v)
	}
	if v, ok := o.Value(); v != 3 || !ok {
		t.Errorf("Value() = %d, %v", v, ok)
	}
}

func TestOnceAtTheBounds(t *testing.T) {
	for _, first := range []uint64{0, 1, top} {
		o := &Once{}
		for _, v := range []uint64{first, 0, 5, top} {
			if got := o.Do(v); got != first {
				t.Errorf("first told %d: Do(%d) = %d", first, v, got)
			}
		}
		if v, ok := o.Value(); v != first || !ok {
			t.Errorf("first told %d: Value() = %d, %v", first, v, ok)
		}
	}
}

func TestMarksExample(t *testing.T) {
	m := &Marks{}
	if !m.Set(9) || m.Set(9) || !m.Has(9) || m.Count() != 1 || !m.Clear(9) || m.Set(256) {
		t.Error("the chapter's example does not hold")
	}
	if m.Has(9) || m.Clear(9) || m.Count() != 0 {
		t.Error("a mark that was cleared is still set")
	}
}

func TestMarksEach(t *testing.T) {
	m := &Marks{}
	for i := range 256 {
		if m.Has(i) || m.Clear(i) || m.Count() != i {
			t.Fatalf("mark %d is set ahead of Set, or Count is %d", i, m.Count())
		}
		if !m.Set(i) || m.Set(i) || !m.Has(i) || m.Count() != i+1 {
			t.Fatalf("mark %d isn't set once, or Count is %d", i, m.Count())
		}
	}
	for i := range 256 {
		if !m.Clear(i) || m.Clear(i) || m.Has(i) || m.Count() != 255-i {
			t.Fatalf("mark %d isn't cleared once, or Count is %d", i, m.Count())
		}
	}
}

func TestMarksThatThereAreNot(t *testing.T) {
	empty, full := &Marks{}, &Marks{}
	for i := range 256 {
		full.Set(i)
	}
	for _, i := range []int{-1, -256, 256, 257, 511, 512, 1 << 32, math.MinInt, math.MaxInt} {
		for _, m := range []*Marks{empty, full} {
			count := m.Count()
			if m.Set(i) || m.Clear(i) || m.Has(i) || m.Count() != count {
				t.Errorf("mark %d: there is none, and something was done", i)
			}
		}
	}
}

func TestNilAnswersZero(t *testing.T) {
	var c *Counter
	for _, n := range []uint64{0, 1, top} {
		wantBlock(t, c, n, 0, false)
		c.Raise(n)
	}
	wantNext(t, c, 0, false)
	wantLeft(t, c, 0, 0)

	var o *Once
	if o.Do(3) != 0 {
		t.Error("Do of a nil Once")
	}
	if v, ok := o.Value(); v != 0 || ok {
		t.Error("Value of a nil Once")
	}

	var m *Marks
	for _, i := range []int{-1, 0, 255, 256} {
		if m.Set(i) || m.Clear(i) || m.Has(i) || m.Count() != 0 {
			t.Errorf("nil Marks at %d", i)
		}
	}
}

func TestZeroCounterHasNone(t *testing.T) {
	c := &Counter{}
	wantNext(t, c, 0, false)
	c.Raise(top)
	wantLeft(t, c, 0, 0)
}

func TestObjectsShareNothing(t *testing.T) {
	a, b := New(0, 3), New(0, 3)
	a.Next()
	wantLeft(t, b, 0, 3)
	o, p := &Once{}, &Once{}
	o.Do(1)
	if _, ok := p.Value(); ok {
		t.Error("a Once knows what another one was told")
	}
	m, n := &Marks{}, &Marks{}
	m.Set(1)
	if n.Has(1) {
		t.Error("Marks know what others were told")
	}
}

// given is a block that a worker was told.
type given struct{ first, n uint64 }

// askAll lets workers take blocks till there are none, and answers how often each number was given out.
func askAll(t *testing.T, c *Counter, from, limit uint64, raise func(worker int)) []int {
	t.Helper()
	const workers = 16
	var took [workers][]given
	together(workers, func(w int) {
		for k := range 4 * limit {
			n := (uint64(w)+k)%3 + 1
			first, ok := c.Block(n)
			if !ok && n == 1 {
				return
			}
			if !ok {
				continue // a smaller block may still be left
			}
			took[w] = append(took[w], given{first, n})
			raise(w)
		}
	})
	times := make([]int, limit)
	for w := range took {
		for _, g := range took[w] {
			if g.first < from || g.first+g.n > limit {
				t.Fatalf("%d numbers from %d on were given out, of %d to ahead of %d", g.n, g.first, from, limit)
			}
			for i := range g.n {
				times[g.first+i]++
			}
		}
	}
	return times
}

func TestNoNumberTwice(t *testing.T) {
	const from, limit = 100, 60000
	c := New(from, limit)
	for i, n := range askAll(t, c, from, limit, func(int) {}) {
		if i >= from && n != 1 {
			t.Fatalf("%d was given out %d times", i, n)
		}
	}
	wantLeft(t, c, limit, 0)
}

func TestNoNumberTwiceWhileItIsRaised(t *testing.T) {
	const from, limit = 100, 200000
	c := New(from, limit)
	raise := func(w int) {
		if next, _ := c.Left(); w%4 == 0 {
			c.Raise(next + 5)
		}
	}
	for i, n := range askAll(t, c, from, limit, raise) {
		if n > 1 {
			t.Fatalf("%d was given out %d times", i, n)
		}
	}
	wantLeft(t, c, limit, 0)
}

// TestRaisedIsNeverGivenOut: who has raised is never told a number below that, whoever asks beside it.
func TestRaisedIsNeverGivenOut(t *testing.T) {
	c := New(0, 1<<40)
	together(8, func(w int) {
		for range 2000 {
			next, _ := c.Left()
			c.Raise(next + uint64(w))
			if got, ok := c.Next(); !ok || got < next+uint64(w) {
				t.Errorf("Next() = %d, %v behind Raise(%d)", got, ok, next+uint64(w))
				return
			}
		}
	})
}

func TestOnceTellsAllTheSame(t *testing.T) {
	for range 2000 {
		const workers = 4
		o := &Once{}
		var told, seen [workers]uint64
		together(workers, func(w int) {
			if v, ok := o.Value(); ok {
				seen[w] = v
			}
			told[w] = o.Do(uint64(w + 1))
			if v, ok := o.Value(); !ok || v != told[w] {
				t.Errorf("Value() = %d, %v behind Do() = %d", v, ok, told[w])
			}
		})
		for w := range workers {
			if told[w] != told[0] || told[w] == 0 || seen[w] != 0 && seen[w] != told[0] {
				t.Fatalf("told %v, seen %v", told, seen)
			}
		}
	}
}

func TestOneIsToldThatItSet(t *testing.T) {
	const workers = 16
	for range 50 {
		m := &Marks{}
		var set, cleared [workers][256]bool
		together(workers, func(w int) {
			for i := range 256 {
				set[w][i] = m.Set(i)
			}
		})
		wantOneEach(t, "Set", set[:])
		if m.Count() != 256 {
			t.Fatalf("Count() = %d", m.Count())
		}
		together(workers, func(w int) {
			for i := range 256 {
				cleared[w][i] = m.Clear(i)
			}
		})
		wantOneEach(t, "Clear", cleared[:])
		if m.Count() != 0 {
			t.Fatalf("Count() = %d", m.Count())
		}
	}
}

func wantOneEach(t *testing.T, call string, told [][256]bool) {
	t.Helper()
	for i := range 256 {
		count := 0
		for w := range told {
			if told[w][i] {
				count++
			}
		}
		if count != 1 {
			t.Fatalf("%s(%d): %d were told true", call, i, count)
		}
	}
}

// TestSetAndClearTakeTurns: of all that set and clear one mark, setting and clearing were told true by turns.
func TestSetAndClearTakeTurns(t *testing.T) {
	const workers = 8
	m := &Marks{}
	var balance [workers]int
	together(workers, func(w int) {
		for range 2000 {
			if m.Set(7) {
				balance[w]++
			}
			if m.Clear(7) {
				balance[w]--
			}
		}
	})
	sum := 0
	for _, b := range balance {
		sum += b
	}
	if sum != 0 || m.Has(7) || m.Count() != 0 {
		t.Errorf("balance %d, Has %v, Count %d", sum, m.Has(7), m.Count())
	}
}

// TestCountIsOfOneMoment: while one mark or two are set at every moment, no other number is told.
func TestCountIsOfOneMoment(t *testing.T) {
	m := &Marks{}
	m.Set(255)
	var counted atomic.Bool
	together(2, func(w int) {
		for w == 0 && !counted.Load() {
			m.Set(0)
			m.Clear(255)
			m.Set(255)
			m.Clear(0)
		}
		if w == 0 {
			return
		}
		defer counted.Store(true)
		for range 50000 {
			if n := m.Count(); n != 1 && n != 2 {
				t.Errorf("Count() = %d", n)
				return
			}
		}
	})
}
