package epochs

import (
	"math"
	"math/rand"
	"slices"
	"testing"

	"penstock/api"
)

// pair is an epoch, and where it begins.
type pair struct{ epoch, at int }

// found is what Last and End tell.
type found struct {
	epoch, at int
	ok        bool
}

// end is the words of P10.2 about these, rising.
func end(list []pair, epoch, end int) found {
	for i, x := range list {
		if x.epoch > epoch || i+1 < len(list) && list[i+1].epoch <= epoch {
			continue
		}
		if i+1 < len(list) {
			end = list[i+1].at
		}
		return found{x.epoch, end, true}
	}
	return found{}
}

func pairsOf(c *Cache) []pair {
	var list []pair
	for epoch, at := range c.All() {
		list = append(list, pair{epoch, at})
	}
	return list
}

func cacheOf(t *testing.T, list ...pair) *Cache {
	t.Helper()
	c := New()
	for _, x := range list {
		wantAssigned(t, "Assign", c, x, api.OK)
	}
	wantPairs(t, "assigned", c, list...)
	return c
}

func wantAssigned(t *testing.T, what string, c *Cache, x pair, want api.Errno) {
	t.Helper()
	if got := c.Assign(x.epoch, x.at); got != want {
		t.Errorf("%s: Assign(%d, %d) = %d, want %d", what, x.epoch, x.at, got, want)
	}
}

func wantEnd(t *testing.T, what string, c *Cache, epoch, end int, want found) {
	t.Helper()
	e, at, ok := c.End(epoch, end)
	if got := (found{e, at, ok}); got != want {
		t.Errorf("%s: End(%d, %d) = %+v, want %+v", what, epoch, end, got, want)
	}
}

func wantLast(t *testing.T, what string, c *Cache, want found) {
	t.Helper()
	e, at, ok := c.Last()
	if got := (found{e, at, ok}); got != want {
		t.Errorf("%s: Last() = %+v, want %+v", what, got, want)
	}
}

// wantPairs holds all that can be seen of a cache against these.
func wantPairs(t *testing.T, what string, c *Cache, want ...pair) {
	t.Helper()
	if got := pairsOf(c); !slices.Equal(got, want) {
		t.Fatalf("%s: All() = %d, want %d", what, got, want)
	}
	last := found{}
	if n := len(want); n > 0 {
		last = found{want[n-1].epoch, want[n-1].at, true}
	}
	wantLast(t, what, c, last)
	epochs := []int{math.MinInt, -1, 0, math.MaxInt}
	for _, x := range want {
		epochs = append(epochs, x.epoch-1, x.epoch, x.epoch+1)
	}
	for _, epoch := range epochs {
		for _, at := range []int{0, last.at, last.at + 7} {
			wantEnd(t, what, c, epoch, at, end(want, epoch, at))
		}
	}
}

func TestExamples(t *testing.T) {
	c := cacheOf(t, pair{1, 0}, pair{3, 5})
	wantEnd(t, "the example", c, 2, 9, found{1, 5, true})
	wantEnd(t, "the example", c, 7, 9, found{3, 9, true})
	wantEnd(t, "the example", c, 0, 9, found{})
	wantAssigned(t, "the example", c, pair{2, 8}, api.ErrState)
	wantAssigned(t, "the example", c, pair{4, 3}, api.OK)
	wantPairs(t, "the example", c, pair{1, 0}, pair{4, 3})
}

// P10.1: Assign.

func TestAssignOfNumbersBelow0(t *testing.T) {
	for _, list := range [][]pair{nil, {{0, 0}}, {{2, 4}, {3, 5}}} {
		for _, x := range []pair{
			{-1, 0}, {-1, 4}, {-1, 9}, {0, -1}, {2, -1}, {3, -1}, {9, -1}, {-1, -1},
			{math.MinInt, 0}, {9, math.MinInt}, {math.MinInt, math.MinInt}, {math.MinInt, math.MaxInt}, {math.MaxInt, math.MinInt},
		} {
			c := cacheOf(t, list...)
			wantAssigned(t, "below 0", c, x, api.ErrArg)
			wantPairs(t, "refused", c, list...)
		}
	}
}

func TestAssignOfTheFirstOne(t *testing.T) {
	for _, x := range []pair{{0, 0}, {0, 7}, {7, 0}, {7, 7}, {math.MaxInt, math.MaxInt}, {0, math.MaxInt}, {math.MaxInt, 0}} {
		cacheOf(t, x)
	}
}

// TestAssignOfAnOlderEpoch: below the last one, known or not, and wherever it is to begin.
func TestAssignOfAnOlderEpoch(t *testing.T) {
	list := []pair{{1, 0}, {3, 5}, {6, 8}}
	for epoch := range 6 {
		for _, at := range []int{0, 1, 4, 5, 6, 7, 8, 9, math.MaxInt} {
			c := cacheOf(t, list...)
			wantAssigned(t, "an older epoch", c, pair{epoch, at}, api.ErrState)
			wantPairs(t, "refused", c, list...)
		}
	}
	// When the last one is gone it doesn't count any more.
	c := cacheOf(t, list...)
	c.Cut(8)
	wantAssigned(t, "behind a Cut", c, pair{2, 9}, api.ErrState)
	wantAssigned(t, "behind a Cut", c, pair{4, 9}, api.OK)
	wantPairs(t, "behind a Cut", c, pair{1, 0}, pair{3, 5}, pair{4, 9})
	c.Cut(0)
	wantAssigned(t, "behind a Cut of all", c, pair{0, 3}, api.OK)
	wantPairs(t, "behind a Cut of all", c, pair{0, 3})
}

// TestAssignOfTheLastOneAgain: at its own offset, ahead of it and behind it.
func TestAssignOfTheLastOneAgain(t *testing.T) {
	for _, list := range [][]pair{{{0, 0}}, {{3, 5}}, {{1, 0}, {3, 5}}, {{1, 4}, {2, 5}, {math.MaxInt, 6}}} {
		last := list[len(list)-1]
		for _, at := range []int{0, 1, 3, 4, 5, 6, 7, 99, math.MaxInt} {
			c := cacheOf(t, list...)
			wantAssigned(t, "the last one again", c, pair{last.epoch, at}, api.OK)
			wantPairs(t, "the last one again", c, list...)
		}
	}
}

// TestAssignAtAnOffset: epochs that begin there, or behind it, go first.
func TestAssignAtAnOffset(t *testing.T) {
	list := []pair{{1, 2}, {3, 5}, {4, 6}, {8, 9}}
	for at := range 12 {
		for _, epoch := range []int{9, 10, math.MaxInt} {
			var want []pair
			for _, x := range list {
				if x.at < at {
					want = append(want, x)
				}
			}
			c := cacheOf(t, list...)
			wantAssigned(t, "a greater epoch", c, pair{epoch, at}, api.OK)
			wantPairs(t, "a greater epoch", c, append(want, pair{epoch, at})...)
		}
	}
	// One epoch behind the other, all without a batch.
	c := New()
	for epoch := range 5 {
		wantAssigned(t, "at one offset", c, pair{epoch, 4}, api.OK)
		wantPairs(t, "at one offset", c, pair{epoch, 4})
	}
	wantAssigned(t, "ahead of it", c, pair{5, 3}, api.OK)
	wantPairs(t, "ahead of it", c, pair{5, 3})
	wantAssigned(t, "behind it", c, pair{6, 4}, api.OK)
	wantPairs(t, "behind it", c, pair{5, 3}, pair{6, 4})
}

// P10.1: Cut.

func TestCut(t *testing.T) {
	list := []pair{{0, 1}, {3, 5}, {4, 6}, {8, 9}}
	for _, at := range []int{math.MinInt, -1, 0, 1, 2, 3, 4, 5, 6, 7, 8, 9, 10, 99, math.MaxInt} {
		var want []pair
		for _, x := range list {
			if x.at < at {
				want = append(want, x)
			}
		}
		c := cacheOf(t, list...)
		c.Cut(at)
		wantPairs(t, "Cut", c, want...)
		c.Cut(at)
		wantPairs(t, "Cut again", c, want...)
		wantAssigned(t, "behind a Cut", c, pair{9, 20}, api.OK)
		wantPairs(t, "behind a Cut", c, append(want, pair{9, 20})...)
	}
	c := cacheOf(t, pair{0, 0}, pair{1, math.MaxInt})
	c.Cut(math.MaxInt)
	wantPairs(t, "the greatest offset", c, pair{0, 0})
	c.Cut(0)
	wantPairs(t, "offset 0", c)
}

// P10.2: End.

func TestEnd(t *testing.T) {
	c := cacheOf(t, pair{2, 3}, pair{3, 5}, pair{6, 8})
	for _, x := range []struct {
		what  string
		epoch int
		want  found
	}{
		{"the first one", 2, found{2, 5, true}},
		{"the second one", 3, found{3, 8, true}},
		{"behind the second one", 4, found{3, 8, true}},
		{"ahead of the last one", 5, found{3, 8, true}},
		{"the last one", 6, found{6, 20, true}},
		{"above the last one", 7, found{6, 20, true}},
		{"the greatest", math.MaxInt, found{6, 20, true}},
		{"below the first one", 1, found{}},
		{"0", 0, found{}},
		{"below 0", -1, found{}},
		{"the least", math.MinInt, found{}},
	} {
		wantEnd(t, x.what, c, x.epoch, 20, x.want)
	}
	// The log's end counts for the last one alone, and is told as it is.
	for _, at := range []int{math.MinInt, -1, 0, 3, 7, 8, 9, math.MaxInt} {
		wantEnd(t, "an end of a log", c, 6, at, found{6, at, true})
		wantEnd(t, "an end of a log", c, 9, at, found{6, at, true})
		wantEnd(t, "an end of a log", c, 5, at, found{3, 8, true})
		wantEnd(t, "an end of a log", c, 2, at, found{2, 5, true})
		wantEnd(t, "an end of a log", c, 1, at, found{})
	}
	wantPairs(t, "asked alone", c, pair{2, 3}, pair{3, 5}, pair{6, 8})
	c = cacheOf(t, pair{0, 0})
	wantEnd(t, "epoch 0", c, 0, 0, found{0, 0, true})
	wantEnd(t, "epoch 0", c, -1, 9, found{})
}

func TestOfNone(t *testing.T) {
	c := New()
	if c == nil {
		t.Fatal("New() is nil")
	}
	wantPairs(t, "of none", c)
	wantEnd(t, "of none", c, 4, 9, found{})
	c.Cut(0)
	c.Cut(math.MinInt)
	wantPairs(t, "of none", c)
}

// P10.2: All.

func TestAllLeftEarly(t *testing.T) {
	list := []pair{{1, 0}, {2, 3}, {5, 4}, {9, 20}}
	c := cacheOf(t, list...)
	for stop := range len(list) + 1 {
		var got []pair
		calls := 0
		c.All()(func(epoch, at int) bool {
			calls++
			got = append(got, pair{epoch, at})
			return calls < stop
		})
		if want := list[:max(stop, 1)]; !slices.Equal(got, want) {
			t.Errorf("left behind %d: %d, want %d", stop, got, want)
		}
		wantPairs(t, "left early", c, list...)
	}
	for epoch, at := range c.All() {
		if epoch == 2 && at == 3 {
			break
		}
		if epoch > 2 {
			t.Error("it goes on behind a break")
		}
	}
}

// TestAllAgain: what All has answered can be gone through more than once, within itself too.
func TestAllAgain(t *testing.T) {
	c := cacheOf(t, pair{1, 0}, pair{2, 3}, pair{5, 4})
	all := c.All()
	for range all {
		break
	}
	sum := 0
	for epoch := range all {
		for other, at := range all {
			sum += epoch * (10*other + at)
		}
	}
	if want := (1 + 2 + 5) * (10*(1+2+5) + 7); sum != want {
		t.Errorf("gone through within itself: %d, want %d", sum, want)
	}
}

// TestAllIsTheCallers: what is assigned and cut later isn't seen in what was answered, not even while it is gone through.
func TestAllIsTheCallers(t *testing.T) {
	list := []pair{{1, 0}, {2, 3}, {5, 4}}
	c := cacheOf(t, list...)
	all := c.All()
	c.Cut(1)
	c.Assign(7, 2)
	c.Assign(8, 9)
	var got []pair
	for epoch, at := range all {
		got = append(got, pair{epoch, at})
	}
	if !slices.Equal(got, list) {
		t.Errorf("a change is seen: %d, want %d", got, list)
	}
	got = nil
	for epoch, at := range c.All() {
		got = append(got, pair{epoch, at})
		c.Cut(0)
		c.Assign(20+epoch, 1)
	}
	if want := []pair{{1, 0}, {7, 2}, {8, 9}}; !slices.Equal(got, want) {
		t.Errorf("gone through while it is changed: %d, want %d", got, want)
	}
	wantPairs(t, "changed within All", c, pair{28, 1})
}

// Rules that hold everywhere.

func TestNil(t *testing.T) {
	var c *Cache
	for _, x := range []pair{{0, 0}, {3, 4}, {-1, 0}, {0, -1}, {-1, -1}} {
		wantAssigned(t, "of nil", c, x, api.ErrState)
		c.Cut(x.at)
	}
	wantPairs(t, "of nil", c)
	wantEnd(t, "of nil", c, 4, 9, found{})
	c.All()(func(int, int) bool {
		t.Error("All of nil has something")
		return true
	})
}

func TestZero(t *testing.T) {
	var c Cache
	wantPairs(t, "of the zero Cache", &c)
	wantAssigned(t, "of the zero Cache", &c, pair{0, 3}, api.OK)
	wantAssigned(t, "of the zero Cache", &c, pair{2, 4}, api.OK)
	wantPairs(t, "of the zero Cache", &c, pair{0, 3}, pair{2, 4})
}

func TestTwoCachesAreApart(t *testing.T) {
	c, d := New(), New()
	c.Assign(1, 2)
	wantPairs(t, "the other one", d)
	d.Assign(0, 0)
	d.Cut(0)
	wantPairs(t, "the first one", c, pair{1, 2})
}

// TestDrawnCalls holds a cache against the chapter's words.
func TestDrawnCalls(t *testing.T) {
	draw := rand.New(rand.NewSource(10))
	seen := map[api.Errno]int{}
	for range 2000 {
		c := New()
		var list []pair
		for range 30 {
			x := pair{draw.Intn(30) - 2, draw.Intn(30) - 2}
			if n := len(list); n > 0 && draw.Intn(3) > 0 {
				x = pair{list[n-1].epoch + draw.Intn(4) - 1, list[n-1].at + draw.Intn(6) - 2}
			}
			ahead := slices.DeleteFunc(slices.Clone(list), func(y pair) bool { return y.at >= x.at })
			if draw.Intn(6) == 0 {
				c.Cut(x.at)
				list = ahead
				wantPairs(t, "drawn", c, list...)
				continue
			}
			want := api.OK
			switch n := len(list); {
			case x.epoch < 0 || x.at < 0:
				want = api.ErrArg
			case n > 0 && x.epoch < list[n-1].epoch:
				want = api.ErrState
			case n == 0 || x.epoch != list[n-1].epoch:
				list = append(ahead, x)
			}
			seen[want]++
			wantAssigned(t, "drawn", c, x, want)
			wantPairs(t, "drawn", c, list...)
			if t.Failed() {
				return
			}
		}
	}
	for _, e := range []api.Errno{api.OK, api.ErrArg, api.ErrState} {
		if seen[e] == 0 {
			t.Errorf("%d was never drawn", e)
		}
	}
}
