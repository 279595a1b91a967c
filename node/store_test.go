package node

import (
	"fmt"
	"math/rand"
	"slices"
	"testing"

	"penstock/api"
	"penstock/disk"
)

// reopened is what a disk has behind a break.
func reopened(t *testing.T, d *disk.Disk, keep int) *store {
	t.Helper()
	d.Crash(keep)
	s, e := openStore(d)
	if e != api.OK {
		t.Fatalf("openStore = %d", e)
	}
	return s
}

// evolved is a Hard that may come behind another one.
func evolved(draw *rand.Rand, h api.Hard) api.Hard {
	h.Log = slices.Clone(h.Log)
	last := h.Base + len(h.Log)
	if draw.Intn(3) == 0 {
		h.Term, h.Vote = h.Term+draw.Intn(3), draw.Intn(6)-1
	}
	switch draw.Intn(12) {
	case 0, 1: // another leader's entries take the place of the last ones
		h.Term++
		h.Log = h.Log[:draw.Intn(len(h.Log)+1)]
		fallthrough
	default:
		for range draw.Intn(4) {
			h.Log = append(h.Log, api.Entry{Term: h.Term, Data: []byte(fmt.Sprint("d", draw.Intn(1000)))[:draw.Intn(3)]})
		}
	case 2: // a snapshot stands for the first ones
		if n := draw.Intn(len(h.Log) + 1); n > 0 {
			h.Base, h.BaseTerm, h.Snap, h.Log = h.Base+n, h.Term, []byte(fmt.Sprint("s", h.Base+n)), h.Log[n:]
		}
	case 3: // or for more than there were
		h.Base, h.BaseTerm, h.Snap, h.Log = last+1+draw.Intn(5), h.Term, []byte("far"), nil
	}
	return h
}

// between are the Hards that may be found when the disk breaks while one is saved behind another one.
func between(old, h api.Hard) []string {
	list := []string{fmt.Sprintf("%+v", old), fmt.Sprintf("%+v", h)}
	if h.Base != old.Base {
		return list
	}
	part := old
	part.Term, part.Vote = h.Term, h.Vote
	list = append(list, fmt.Sprintf("%+v", part))
	for i, x := range h.Log {
		if i < len(part.Log) && part.Log[i].Term == x.Term {
			continue
		}
		part.Log = append(slices.Clone(part.Log[:i]), x)
		list = append(list, fmt.Sprintf("%+v", part))
	}
	return list
}

// TestStore: what is saved is found again; if the disk breaks meanwhile, what was there, or a beginning of what is new, term first.
func TestStore(t *testing.T) {
	seen := map[string]int{}
	for seed := range int64(400) {
		draw := rand.New(rand.NewSource(seed))
		d := disk.New()
		s := reopened(t, d, 0)
		same(t, "what is kept at first", fmt.Sprintf("%+v %d", s.hard, s.starts), fmt.Sprintf("%+v 0", api.Hard{Vote: -1}))
		starts := 0
		for range 40 {
			old, h := s.hard, evolved(draw, s.hard)
			if draw.Intn(3) == 0 {
				d.Arm(draw.Intn(60))
			}
			if e := s.save(h); e == api.OK {
				d.Arm(-1)
			} else {
				seen["broken"]++
				s = reopened(t, d, draw.Intn(100))
				got := fmt.Sprintf("%+v", s.hard)
				if !slices.Contains(between(old, h), got) {
					t.Errorf("behind a break: %s\nsaved: %+v\nbehind %+v", got, h, old)
				}
				if got != fmt.Sprintf("%+v", old) && got != fmt.Sprintf("%+v", h) {
					seen["between"]++
				}
				same(t, "the starts behind a break", s.starts, starts)
				continue
			}
			if draw.Intn(4) == 0 {
				starts += 1 + draw.Intn(3)
				if e := s.start(starts); e != api.OK {
					t.Fatal(e)
				}
			}
			s = reopened(t, d, draw.Intn(100))
			same(t, "what is kept", fmt.Sprintf("%+v %d", s.hard, s.starts), fmt.Sprintf("%+v %d", h, starts))
		}
		if t.Failed() {
			t.Fatalf("seed %d", seed)
		}
	}
	for _, what := range []string{"broken", "between"} {
		if seen[what] < 100 {
			t.Errorf("%s: %d times", what, seen[what])
		}
	}
}

// TestStoreStaysSmall: what holds no more doesn't stay in the file for ever.
func TestStoreStaysSmall(t *testing.T) {
	d := disk.New()
	s := reopened(t, d, 0)
	for i := range 3 * mostPayloads {
		h := s.hard
		h.Term = i + 1
		if e := s.save(h); e != api.OK {
			t.Fatal(e)
		}
		if s.file.Count() > mostPayloads {
			t.Fatalf("%d payloads", s.file.Count())
		}
	}
	same(t, "the term", reopened(t, d, 0).hard.Term, 3*mostPayloads)
}
