package net

import (
	"math/rand"
	"slices"
	"testing"

	"penstock/api"
)

// model is a net by the chapter's words, in the plainest way: what was sent, with a note of whether it is gone, and what was cut, in a row.
type model struct {
	sent []sending
	cuts [][2]int
}

type sending struct {
	packet api.Packet
	gone   bool
}

// flight is where those stand that are in flight.
func (m *model) flight() []int {
	var list []int
	for at, s := range m.sent {
		if !s.gone {
			list = append(list, at)
		}
	}
	return list
}

func (m *model) packets() []api.Packet {
	var list []api.Packet
	for _, at := range m.flight() {
		list = append(list, m.sent[at].packet)
	}
	return list
}

func (m *model) find(i int) (*sending, bool) {
	list := m.flight()
	if len(list) == 0 {
		return nil, false
	}
	return &m.sent[list[placeOf(i, len(list))]], true
}

func (m *model) send(p api.Packet) bool {
	if len(m.flight()) == api.MaxMsgs {
		return false
	}
	m.sent = append(m.sent, sending{packet: p})
	return true
}

func (m *model) take(i int) (api.Packet, bool) {
	s, ok := m.find(i)
	if !ok {
		return api.Packet{}, false
	}
	s.gone = true
	from, to := s.packet.From, s.packet.To
	if from != to && (slices.Contains(m.cuts, [2]int{from, to}) || slices.Contains(m.cuts, [2]int{to, from})) {
		return api.Packet{}, false
	}
	return s.packet, true
}

func (m *model) drop(i int) bool {
	s, ok := m.find(i)
	if ok {
		s.gone = true
	}
	return ok
}

func (m *model) copy(i int) bool {
	s, ok := m.find(i)
	return ok && m.send(s.packet)
}

// run is a drawn row of calls, to a net and its model.
type run struct {
	t    *testing.T
	draw *rand.Rand
	n    *Net
	m    *model
	seen map[string]int // how often a call answered in a way
}

// told notes what a call of both answered.
func (r *run) told(what string, got, want bool) {
	r.t.Helper()
	if got != want {
		r.t.Errorf("%s: %v, want %v", what, got, want)
	}
	if want {
		r.seen[what+" true"]++
	} else {
		r.seen[what+" false"]++
	}
}

// step is one call: of ten, chance are a Send, so that some runs fill the net.
func (r *run) step(number, chance int) {
	r.t.Helper()
	i := []int{r.draw.Intn(12) - 6, r.draw.Intn(2000) - 1000, int(r.draw.Uint64())}[r.draw.Intn(3)]
	a, b := r.draw.Intn(4), r.draw.Intn(4)
	if r.draw.Intn(10) < chance {
		p := between(a, b, number)
		r.told("Send", r.n.Send(p), r.m.send(p))
		return
	}
	switch r.draw.Intn(7) {
	case 0, 1:
		got, ok := r.n.Take(i)
		want, found := r.m.take(i)
		r.told("Take", ok, found)
		if !same(got, want) {
			r.t.Errorf("Take(%d) = %+v, want %+v", i, got, want)
		}
	case 2:
		r.told("Drop", r.n.Drop(i), r.m.drop(i))
	case 3:
		r.told("Copy", r.n.Copy(i), r.m.copy(i))
	case 4:
		r.n.Cut(a, b)
		r.m.cuts = append(r.m.cuts, [2]int{a, b})
	case 5:
		r.n.Heal()
		r.m.cuts = nil
	case 6:
		got, ok := r.n.Peek(i)
		s, found := r.m.find(i)
		r.told("Peek", ok, found)
		if found {
			wantPacket(r.t, "Peek", got, ok, s.packet)
		}
	}
}

// TestDrawnCalls holds a net against the model, whole behind each call while few are in flight, and at the end.
func TestDrawnCalls(t *testing.T) {
	seen := map[string]int{}
	for seed := range 60 {
		r := &run{t, rand.New(rand.NewSource(int64(seed))), New(), &model{}, seen}
		for number := range 700 {
			r.step(number, []int{2, 4, 9}[seed%3])
			if list := r.m.packets(); len(list) < 20 || number%50 == 0 {
				wantFlight(t, "drawn", r.n, list...)
			}
			if t.Failed() {
				t.Fatalf("seed %d, call %d", seed, number)
			}
		}
		wantFlight(t, "at the end", r.n, r.m.packets()...)
	}
	for _, what := range []string{"Send", "Take", "Drop", "Copy", "Peek"} {
		for _, way := range []string{" true", " false"} {
			if seen[what+way] == 0 {
				t.Errorf("%s was never drawn", what+way)
			}
		}
	}
}
