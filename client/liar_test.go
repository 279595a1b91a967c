package client

import (
	"math"
	"math/rand"
	"testing"

	"penstock/api"
)

// lie is an answer by chance.
func lie(draw *rand.Rand, x *talk) api.Msg {
	number := func() int {
		if draw.Intn(30) == 0 {
			return []int{math.MinInt, -1, math.MaxInt}[draw.Intn(3)]
		}
		return draw.Intn(9)
	}
	m := api.Msg{Offset: number(), Epoch: number(), High: number(), Gen: number(), Pid: uint64(number()), Commit: draw.Intn(2) == 0, Part: number()}
	if draw.Intn(2) == 0 {
		m.Offset, m.High = x.c.tx.epoch, int(x.c.tx.pid)
	}
	for range draw.Intn(4) {
		m.Members = append(m.Members, draw.Intn(3))
	}
	for range draw.Intn(4) {
		b := api.Batch{Base: number(), Pid: uint64(draw.Intn(3)), Txn: draw.Intn(2) == 0, Control: draw.Intn(4) == 0}
		for range draw.Intn(3) {
			b.Values = append(b.Values, []byte{byte(draw.Intn(256))})
		}
		m.Batches = append(m.Batches, b)
		m.Aborts = append(m.Aborts, api.Abort{Pid: uint64(draw.Intn(3)), First: number(), Last: number()})
	}
	switch draw.Intn(6) {
	case 0:
		m.E = api.Errno(draw.Intn(20) - 1)
	case 1:
		m.E = none[draw.Intn(len(none))]
	}
	if m.E == api.ErrSpent && draw.Intn(10) > 0 {
		m.E = api.OK
	}
	m = x.answer(m)
	if draw.Intn(10) == 0 {
		m.Corr, m.Inc, m.From = m.Corr+draw.Intn(2), m.Inc-draw.Intn(2), number()
	}
	return m
}

// TestLiars: whatever is answered, P19.3 holds: the watch looks at that.
func TestLiars(t *testing.T) {
	draw := rand.New(rand.NewSource(19))
	tally := map[string]int{}
	for range 3000 {
		var ops []api.Op
		for range draw.Intn(12) {
			ops = append(ops, api.Op{Kind: 1 + draw.Intn(5), Part: draw.Intn(4), To: draw.Intn(4), Count: draw.Intn(5), Value: "v"})
		}
		x := member(t, draw.Intn(8), ops...)
		x.w.tally = tally
		for range 200 {
			switch r := draw.Intn(20); {
			case r < 12:
				x.next = append(x.next, x.w.handle(lie(draw, x))...)
			case r == 12 && draw.Intn(4) == 0:
				x.again()
			default:
				x.tick()
			}
			for _, m := range x.next {
				x.under = m
			}
			x.next = nil
		}
		if t.Failed() {
			t.Fatalf("the program %+v", ops)
		}
	}
	wantTally(t, tally, map[string]int{
		"sent": 1000, "commit": 1000, "abort": 1000, "failed": 1000, "read": 1000, "seek": 1000, "done": 1000,
		"begun anew by itself": 1000, "learnt later": 50, "its generation passed": 3, "copied": 50,
	})
}
