package replica

import (
	"fmt"
	"testing"

	"penstock/api"
)

// P14.6.

func ticks(r *Replica, n int) {
	for range n {
		r.Tick()
	}
}

func TestWantOfOneThatDoesNotLead(t *testing.T) {
	for what, r := range map[string]*Replica{"opened": fresh(t, 0), "follows": follower(t, 1)} {
		r.Tick()
		wantWant(t, what, r, everybody(), nil, false)
	}
}

// TestWantOfTheSilent: of Isr, without having asked, one is counted from the first tick on, with 0.
func TestWantOfTheSilent(t *testing.T) {
	r := leader(t, 1, 0, 1)
	wantWant(t, "not counted yet", r, everybody(), []int{0, 1}, false)
	for age := range 6 {
		r.Tick()
		wantWant(t, fmt.Sprint("of the age ", age), r, everybody(), []int{0, 1}, false)
	}
	r.Tick()
	wantWant(t, "of the age 6", r, everybody(), []int{0}, true)
	asks(t, r, 1, 0)
	wantWant(t, "fresh", r, everybody(), []int{0, 1}, false)
}

// TestWantOfTheFresh: who has come to the log's end is new, and six ticks later it isn't.
func TestWantOfTheFresh(t *testing.T) {
	r := leader(t, 1, 0, 1)
	laid(t, r, plain("a"))
	asks(t, r, 1, 1)
	ticks(r, 5)
	wantWant(t, "of the age 5", r, everybody(), []int{0, 1}, false)
	r.Tick()
	wantWant(t, "of the age 6", r, everybody(), []int{0}, true)
	asks(t, r, 1, 1)
	wantWant(t, "fresh again", r, everybody(), []int{0, 1}, false)
	laid(t, r, plain("b"))
	ticks(r, 4)
	asks(t, r, 1, 1)
	ticks(r, 1)
	wantWant(t, "behind asking, of the age 5", r, everybody(), []int{0, 1}, false)
	r.Tick()
	wantWant(t, "asking from below the end makes nobody fresh", r, everybody(), []int{0}, true)
	asks(t, r, 1, 2)
	wantWant(t, "fresh once more", r, everybody(), []int{0, 1}, false)
}

// TestWantOfTheNeverFresh: one is counted from its first asking on.
func TestWantOfTheNeverFresh(t *testing.T) {
	r := leader(t, 1, 0, 1)
	laid(t, r, plain("a"))
	asks(t, r, 1, 0)
	ticks(r, 5)
	wantWant(t, "of the age 5", r, everybody(), []int{0, 1}, false)
	asks(t, r, 1, 0)
	r.Tick()
	wantWant(t, "of the age 6", r, everybody(), []int{0}, true)

	r = leader(t, 1, 0, 1)
	laid(t, r, plain("a"))
	ticks(r, 4)
	asks(t, r, 1, 0)
	ticks(r, 2)
	wantWant(t, "counted ahead of its asking, of the age 5", r, everybody(), []int{0, 1}, false)
	r.Tick()
	wantWant(t, "counted ahead of its asking, of the age 6", r, everybody(), []int{0}, true)
}

// TestWantOfNewcomers: one that isn't in sync comes in from the high watermark on, and from the beginning on, while it isn't slow.
func TestWantOfNewcomers(t *testing.T) {
	r := ofEpochs(t, 9, 1, 1, 1, 1)
	isr := []int{0, 1}
	ask := func(node, offset, last int) {
		t.Helper()
		if a := r.Fetch(asking(9, node, offset, last)); a.E != api.OK || a.Diverges {
			t.Fatalf("Fetch = %+v", a)
		}
	}
	ask(1, 2, 1)
	wantHigh(t, "1 has asked", r, 2)
	wantWant(t, "2 hasn't asked", r, everybody(), isr, false)
	ask(2, 3, 1)
	wantWant(t, "2 has asked behind the high watermark, below the beginning", r, everybody(), isr, false)
	ask(2, 4, 1)
	wantWant(t, "2 has asked from the beginning", r, everybody(), []int{0, 1, 2}, true)
	laid(t, r, plain("a"), plain("b"))
	wantWant(t, "2 has asked from the beginning, below the end", r, everybody(), []int{0, 1, 2}, true)
	ask(1, 5, 9)
	wantHigh(t, "1 has asked again", r, 5)
	wantWant(t, "2 has asked from below the high watermark", r, everybody(), isr, false)
	ask(2, 5, 9)
	wantWant(t, "2 has asked from the high watermark", r, everybody(), []int{0, 1, 2}, true)
	ask(2, 3, 1)
	wantWant(t, "the last offset counts", r, everybody(), isr, false)
	ask(2, 6, 9)
	wantWant(t, "2 is fresh", r, everybody(), []int{0, 1, 2}, true)
	wantWant(t, "2 isn't of replicas", r, []int{0, 1, 3, 4}, isr, false)
	for range 6 {
		ask(1, 6, 9)
		wantWant(t, "2 isn't slow yet", r, everybody(), []int{0, 1, 2}, true)
		r.Tick()
	}
	wantWant(t, "2 is slow", r, everybody(), isr, false)
	ask(4, 6, 9)
	ask(3, 6, 9)
	wantWant(t, "two others", r, []int{4, 3}, []int{0, 3, 4}, true)
}

// TestWantOfReplicas: itself even if it isn't of them, nobody else who isn't; and no number that is no node's.
func TestWantOfReplicas(t *testing.T) {
	r := leads(t, fresh(t, 2), 1, 4, 2, 0)
	for _, c := range []struct {
		replicas, want []int
		differs        bool
	}{
		{nil, []int{2}, true},
		{[]int{2}, []int{2}, true},
		{[]int{4}, []int{2, 4}, true},
		{[]int{4, 0}, []int{0, 2, 4}, false},
		{[]int{4, 4, 0, 0, 2, 2}, []int{0, 2, 4}, false},
		{[]int{0, 1, 2, 3, 4}, []int{0, 2, 4}, false},
		{append(outside(5), 0), []int{0, 2}, true},
	} {
		wantWant(t, "of three", r, c.replicas, c.want, c.differs)
	}
	same(t, "without anybody in sync", fmt.Sprint(leader(t, 1).Want(nil)), "[0] true")
	same(t, "in sync without itself", fmt.Sprint(leader(t, 1, 1).Want([]int{1})), "[0 1] true")
	same(t, "in sync with no node", fmt.Sprint(leader(t, 1, 0, 7).Want(everybody())), "[0] true")
	same(t, "in sync twice", fmt.Sprint(leader(t, 1, 1, 0, 1).Want(everybody())), "[0 1] false")
}

func TestWantWhileSomebodyIsAskedFor(t *testing.T) {
	r := leader(t, 1, 0, 1)
	r.Asked(nil)
	wantWant(t, "nobody", r, everybody(), []int{0, 1}, false)
	for _, list := range [][]int{{0, 1}, {0}, {3}, {-1}} {
		r.Asked(list)
		wantWant(t, fmt.Sprintf("%d", list), r, everybody(), []int{0, 1}, true)
		r.Asked(nil)
		wantWant(t, fmt.Sprintf("%d, and nobody more", list), r, everybody(), []int{0, 1}, true)
		wantErrno(t, "Sync", r.Sync(1, []int{0, 1}), api.OK)
		wantWant(t, "nobody, any more", r, everybody(), []int{0, 1}, false)
	}
	// Who is asked for isn't in sync yet, and so isn't counted.
	r.Asked([]int{0, 1, 3})
	ticks(r, 3)
	wantErrno(t, "Sync", r.Sync(1, []int{0, 1, 3}), api.OK)
	ticks(r, 4)
	wantWant(t, "1 is of the age 6, 3 of 3", r, everybody(), []int{0, 3}, true)
	ticks(r, 2)
	wantWant(t, "3 is of the age 5", r, everybody(), []int{0, 3}, true)
	r.Tick()
	wantWant(t, "3 is of the age 6", r, everybody(), []int{0}, true)
}

// TestAgesOfAnEpoch: who leads anew counts anew.
func TestAgesOfAnEpoch(t *testing.T) {
	r := leader(t, 1, 0, 1)
	ticks(r, 9)
	wantWant(t, "slow", r, everybody(), []int{0}, true)
	leads(t, r, 2, 0, 1)
	wantWant(t, "not counted yet", r, everybody(), []int{0, 1}, false)
	ticks(r, 6)
	wantWant(t, "of the age 5", r, everybody(), []int{0, 1}, false)
	r.Tick()
	wantWant(t, "of the age 6", r, everybody(), []int{0}, true)
}

// TestItselfIsNeverSlow: however long its clock has gone.
func TestItselfIsNeverSlow(t *testing.T) {
	r := leader(t, 1, 0)
	laid(t, r, plain("a"))
	ticks(r, 50)
	wantWant(t, "alone", r, nil, []int{0}, false)
	wantHigh(t, "alone", r, 1)
}
