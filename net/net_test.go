package net

import (
	"bytes"
	"math"
	"slices"
	"strconv"
	"testing"

	"penstock/api"
)

// packet is one from 0 to 1 that is known again by its body.
func packet(number int) api.Packet {
	return between(0, 1, number)
}

func between(from, to, number int) api.Packet {
	return api.Packet{From: from, To: to, Body: []byte(strconv.Itoa(number))}
}

func same(p, q api.Packet) bool {
	return p.From == q.From && p.To == q.To && bytes.Equal(p.Body, q.Body)
}

// netOf has these in flight.
func netOf(t *testing.T, list ...api.Packet) *Net {
	t.Helper()
	n := New()
	for _, p := range list {
		wantTrue(t, "Send", n.Send(p))
	}
	wantFlight(t, "sent", n, list...)
	return n
}

// numbered has the packets 0, 1 .. in flight, count of them.
func numbered(t *testing.T, count int) (*Net, []api.Packet) {
	t.Helper()
	var list []api.Packet
	for i := range count {
		list = append(list, packet(i))
	}
	return netOf(t, list...), list
}

func wantTrue(t *testing.T, what string, got bool) {
	t.Helper()
	if !got {
		t.Errorf("%s: false", what)
	}
}

func wantFalse(t *testing.T, what string, got bool) {
	t.Helper()
	if got {
		t.Errorf("%s: true", what)
	}
}

func wantPacket(t *testing.T, what string, got api.Packet, ok bool, want api.Packet) {
	t.Helper()
	if !ok || !same(got, want) {
		t.Errorf("%s: %+v, %v, want %+v", what, got, ok, want)
	}
}

// wantNone: false, and the zero Packet beside it.
func wantNone(t *testing.T, what string, got api.Packet, ok bool) {
	t.Helper()
	if ok || got.From != 0 || got.To != 0 || len(got.Body) != 0 {
		t.Errorf("%s: %+v, %v, want none", what, got, ok)
	}
}

func wantTaken(t *testing.T, what string, n *Net, i int, want api.Packet) {
	t.Helper()
	p, ok := n.Take(i)
	wantPacket(t, what+": Take", p, ok, want)
}

func wantLost(t *testing.T, what string, n *Net, i int) {
	t.Helper()
	p, ok := n.Take(i)
	wantNone(t, what+": Take", p, ok)
}

// wantFlight: these are in flight, in this order, as far as Count and Peek tell.
func wantFlight(t *testing.T, what string, n *Net, want ...api.Packet) {
	t.Helper()
	if got := n.Count(); got != len(want) {
		t.Errorf("%s: Count() = %d, want %d", what, got, len(want))
		return
	}
	for i, x := range want {
		p, ok := n.Peek(i)
		wantPacket(t, what+": Peek "+strconv.Itoa(i), p, ok, x)
	}
	if len(want) == 0 {
		p, ok := n.Peek(0)
		wantNone(t, what+": Peek", p, ok)
	}
}

// without is a list, as it is without the one at a place.
func without(list []api.Packet, at int) []api.Packet {
	return slices.Delete(slices.Clone(list), at, at+1)
}

// far are numbers that lie at the ends, and about 0 and a count.
func far(count int) []int {
	return []int{
		math.MinInt, math.MinInt + 1, -2*count - 1, -2 * count, -count - 1, -count, -count + 1, -1,
		0, 1, count - 1, count, count + 1, 2*count - 1, 2 * count, math.MaxInt - 1, math.MaxInt,
	}
}

// placeOf is where a number stands among count, without a remainder of a number below 0.
func placeOf(i, count int) int {
	if i >= 0 {
		return i % count
	}
	// -1 is the last one, -2 the one ahead of it; -1 - i does not go round, even at the least number.
	return count - 1 - (-1-i)%count
}

// The chapter's examples.

func TestExampleTakeAndCopy(t *testing.T) {
	n := netOf(t, packet(1), packet(2))
	wantTaken(t, "example 1", n, -1, packet(2))
	wantTrue(t, "Copy(0)", n.Copy(0))
	if got := n.Count(); got != 2 {
		t.Errorf("Count() = %d, want 2", got)
	}
	wantFlight(t, "example 1", n, packet(1), packet(1))
}

func TestExampleCut(t *testing.T) {
	n := New()
	n.Cut(0, 1)
	wantTrue(t, "Send", n.Send(between(1, 0, 5)))
	wantFlight(t, "example 2", n, between(1, 0, 5))
	wantLost(t, "example 2", n, 0)
	wantFlight(t, "example 2", n)
}

// P11.1.

func TestSendUpToTheLimit(t *testing.T) {
	n, list := numbered(t, api.MaxMsgs)
	for range 3 {
		wantFalse(t, "Send of one too many", n.Send(packet(999)))
		wantFlight(t, "full", n, list...)
	}
	wantTaken(t, "full", n, 3, list[3])
	wantTrue(t, "Send, with room again", n.Send(packet(777)))
	wantFalse(t, "Send of one too many", n.Send(packet(999)))
	wantFlight(t, "full again", n, append(without(list, 3), packet(777))...)
}

func TestRoomByDropAndByCut(t *testing.T) {
	n, list := numbered(t, api.MaxMsgs)
	wantTrue(t, "Drop", n.Drop(-1))
	wantTrue(t, "Send behind a Drop", n.Send(packet(777)))
	wantFalse(t, "Send of one too many", n.Send(packet(999)))
	n.Cut(0, 1)
	wantLost(t, "full and cut", n, 0)
	wantTrue(t, "Send behind a loss", n.Send(packet(778)))
	wantFalse(t, "Send of one too many", n.Send(packet(999)))
	wantFlight(t, "full again", n, append(slices.Clone(list[1:api.MaxMsgs-1]), packet(777), packet(778))...)
}

// TestLimitIsOfThoseInFlight: more than MaxMsgs may be sent in all.
func TestLimitIsOfThoseInFlight(t *testing.T) {
	n := New()
	for i := range 5 * api.MaxMsgs {
		wantTrue(t, "Send", n.Send(packet(i)))
		wantTaken(t, "one at a time", n, i, packet(i))
	}
	wantFlight(t, "all taken", n)
}

func TestTakeCountedRound(t *testing.T) {
	for _, count := range []int{1, 2, 3, 7, api.MaxMsgs} {
		for _, i := range far(count) {
			n, list := numbered(t, count)
			at := placeOf(i, count)
			p, ok := n.Peek(i)
			wantPacket(t, "Peek "+strconv.Itoa(i), p, ok, list[at])
			wantFlight(t, "behind Peek", n, list...)
			wantTaken(t, strconv.Itoa(i), n, i, list[at])
			wantFlight(t, "behind Take", n, without(list, at)...)
		}
	}
}

func TestDropCountedRound(t *testing.T) {
	for _, count := range []int{1, 2, 3, 7, api.MaxMsgs} {
		for _, i := range far(count) {
			n, list := numbered(t, count)
			wantTrue(t, "Drop", n.Drop(i))
			wantFlight(t, "behind Drop "+strconv.Itoa(i), n, without(list, placeOf(i, count))...)
		}
	}
}

func TestCopyCountedRound(t *testing.T) {
	for _, count := range []int{1, 2, 3, 7, api.MaxMsgs - 1} {
		for _, i := range far(count) {
			n, list := numbered(t, count)
			wantTrue(t, "Copy", n.Copy(i))
			wantFlight(t, "behind Copy "+strconv.Itoa(i), n, append(slices.Clone(list), list[placeOf(i, count)])...)
		}
	}
}

// TestCopyOfOneTooMany: what is lost is the one that is sent once more; the packet itself stays where it is.
func TestCopyOfOneTooMany(t *testing.T) {
	n, list := numbered(t, api.MaxMsgs)
	for _, i := range far(api.MaxMsgs) {
		wantFalse(t, "Copy "+strconv.Itoa(i), n.Copy(i))
	}
	wantFlight(t, "full", n, list...)
	wantTaken(t, "full", n, 5, list[5])
	wantTrue(t, "Copy, with room again", n.Copy(0))
	wantFalse(t, "Copy of one too many", n.Copy(0))
	wantFlight(t, "full again", n, append(without(list, 5), list[0])...)
}

func TestNoneInFlight(t *testing.T) {
	n := New()
	emptied := netOf(t, packet(1))
	wantTrue(t, "Drop", emptied.Drop(0))
	for _, n := range []*Net{n, emptied} {
		for _, i := range far(1) {
			p, ok := n.Take(i)
			wantNone(t, "Take of none", p, ok)
			p, ok = n.Peek(i)
			wantNone(t, "Peek of none", p, ok)
			wantFalse(t, "Drop of none", n.Drop(i))
			wantFalse(t, "Copy of none", n.Copy(i))
		}
		wantFlight(t, "none", n)
		wantTrue(t, "Send", n.Send(packet(3)))
		wantFlight(t, "one again", n, packet(3))
	}
}

// TestOrderStays: those behind a packet that goes move up by one.
func TestOrderStays(t *testing.T) {
	n, list := numbered(t, 6)
	wantTaken(t, "the middle one", n, 2, list[2])
	wantTaken(t, "the one behind it", n, 2, list[3])
	wantTrue(t, "Drop", n.Drop(0))
	wantTrue(t, "Copy", n.Copy(1))
	wantTrue(t, "Send", n.Send(packet(9)))
	wantFlight(t, "in order", n, list[1], list[4], list[5], list[4], packet(9))
}

// TestCutIsFeltByTakeAlone: what is sent between ends that are cut is in flight, and is told, lost and doubled as others are.
func TestCutIsFeltByTakeAlone(t *testing.T) {
	n := New()
	n.Cut(0, 1)
	wantTrue(t, "Send", n.Send(packet(1)))
	wantTrue(t, "Send", n.Send(packet(2)))
	wantTrue(t, "Copy", n.Copy(1))
	wantTrue(t, "Drop", n.Drop(1))
	wantFlight(t, "cut", n, packet(1), packet(2))
	wantLost(t, "cut", n, 0)
	n.Heal()
	wantFlight(t, "what was lost stays lost", n, packet(2))
	wantTaken(t, "sent while it was cut", n, 0, packet(2))
}

func TestBodies(t *testing.T) {
	long := bytes.Repeat([]byte("0123456789"), api.MaxBytes)
	n := netOf(t, api.Packet{}, api.Packet{Body: []byte{}}, api.Packet{From: -3, To: math.MaxInt, Body: long})
	wantTrue(t, "Copy", n.Copy(2))
	wantTaken(t, "without bytes", n, 0, api.Packet{})
	wantTaken(t, "without bytes", n, 0, api.Packet{})
	wantTaken(t, "of many bytes", n, 0, api.Packet{From: -3, To: math.MaxInt, Body: long})
	wantTaken(t, "of many bytes", n, 0, api.Packet{From: -3, To: math.MaxInt, Body: long})
}

// P11.2.

// TestCutEitherWay: whichever end is named first, and whichever sends.
func TestCutEitherWay(t *testing.T) {
	for _, ends := range [][2]int{{0, 1}, {1, 0}, {-4, 9}, {9, -4}, {math.MinInt, math.MaxInt}, {math.MaxInt, math.MinInt}} {
		a, b := ends[0], ends[1]
		n := netOf(t, between(a, b, 1), between(b, a, 2), between(a, a, 3), between(b, b, 4), between(a, 5, 5), between(5, b, 6))
		n.Cut(a, b)
		wantLost(t, "forth", n, 0)
		wantLost(t, "back", n, 0)
		for _, p := range []api.Packet{between(a, a, 3), between(b, b, 4), between(a, 5, 5), between(5, b, 6)} {
			wantTaken(t, "other ways", n, 0, p)
		}
		wantFlight(t, "all gone", n)
	}
}

func TestCutOfOneAndTheSame(t *testing.T) {
	for _, a := range []int{0, 1, -1, math.MinInt, math.MaxInt} {
		n := New()
		n.Cut(2, 3)
		n.Cut(a, a)
		wantTrue(t, "Send", n.Send(between(a, a, 1)))
		wantTrue(t, "Send", n.Send(between(a, 7, 2)))
		wantTrue(t, "Send", n.Send(between(3, 2, 3)))
		wantTaken(t, "to itself", n, 0, between(a, a, 1))
		wantTaken(t, "to another one", n, 0, between(a, 7, 2))
		wantLost(t, "what was cut stays cut", n, 0)
	}
}

func TestSeveralCuts(t *testing.T) {
	n := New()
	n.Cut(0, 1)
	n.Cut(2, 0)
	n.Cut(1, 0)
	for from := range 4 {
		for to := range 4 {
			wantTrue(t, "Send", n.Send(between(from, to, 0)))
			if from+to == 1 || from+to == 2 && from != to {
				wantLost(t, "cut", n, 0)
				continue
			}
			wantTaken(t, "not cut", n, 0, between(from, to, 0))
		}
	}
}

func TestHeal(t *testing.T) {
	n := New()
	n.Heal()
	n.Cut(0, 1)
	n.Cut(1, 0)
	n.Cut(1, 2)
	n.Heal()
	for _, p := range []api.Packet{between(0, 1, 1), between(1, 0, 2), between(1, 2, 3), between(2, 1, 4)} {
		wantTrue(t, "Send", n.Send(p))
		wantTaken(t, "healed", n, 0, p)
	}
	n.Cut(1, 2)
	wantTrue(t, "Send", n.Send(between(2, 1, 5)))
	wantTrue(t, "Send", n.Send(between(0, 1, 6)))
	wantLost(t, "cut again", n, 0)
	wantTaken(t, "healed ahead of that", n, 0, between(0, 1, 6))
}

// TestCutAndHealLeaveTheFlight: neither takes a packet away, nor brings one back.
func TestCutAndHealLeaveTheFlight(t *testing.T) {
	n, list := numbered(t, 5)
	n.Cut(0, 1)
	wantFlight(t, "cut", n, list...)
	wantLost(t, "cut", n, 1)
	n.Heal()
	wantFlight(t, "healed", n, without(list, 1)...)
}

// Rules that hold everywhere.

func TestNil(t *testing.T) {
	var n *Net
	wantFalse(t, "Send of nil", n.Send(packet(1)))
	n.Cut(0, 1)
	n.Heal()
	for _, i := range far(1) {
		p, ok := n.Take(i)
		wantNone(t, "Take of nil", p, ok)
		p, ok = n.Peek(i)
		wantNone(t, "Peek of nil", p, ok)
		wantFalse(t, "Drop of nil", n.Drop(i))
		wantFalse(t, "Copy of nil", n.Copy(i))
	}
	wantFlight(t, "of nil", n)
}

func TestZero(t *testing.T) {
	var n Net
	n.Heal()
	n.Cut(0, 1)
	wantTrue(t, "Send", n.Send(packet(1)))
	wantTrue(t, "Send", n.Send(between(1, 2, 2)))
	wantLost(t, "of the zero Net", &n, 0)
	wantTaken(t, "of the zero Net", &n, 0, between(1, 2, 2))
	wantFlight(t, "of the zero Net", &n)
}

func TestTwoNetsAreApart(t *testing.T) {
	n, m := New(), New()
	wantTrue(t, "Send", n.Send(packet(1)))
	n.Cut(0, 1)
	wantFlight(t, "the other one", m)
	wantTrue(t, "Send", m.Send(packet(2)))
	wantTaken(t, "the other one", m, 0, packet(2))
	m.Heal()
	wantLost(t, "the first one", n, 0)
}

// TestSendTakesACopy: whoever sends may go on writing into the bytes, and into the room behind them, which stays as it was.
func TestSendTakesACopy(t *testing.T) {
	room := []byte("abcXYZ")
	n := New()
	wantTrue(t, "Send", n.Send(api.Packet{Body: room[:3]}))
	wantTrue(t, "Send", n.Send(api.Packet{Body: room[:3]}))
	wantTrue(t, "Copy", n.Copy(0))
	if string(room) != "abcXYZ" {
		t.Errorf("what was handed in is changed: %q", room)
	}
	copy(room, "------")
	for range 3 {
		wantTaken(t, "written into", n, 0, api.Packet{Body: []byte("abc")})
	}
}

// spoil writes into all bytes of a packet, and into the room behind them.
func spoil(p api.Packet) {
	all := p.Body[:cap(p.Body)]
	for i := range all {
		all[i] = '-'
	}
}

// TestAnswersAreTheCallers: what is done to an answer isn't seen in what is in flight, nor in another answer.
func TestAnswersAreTheCallers(t *testing.T) {
	n := netOf(t, packet(10), packet(20))
	wantTrue(t, "Copy", n.Copy(0))
	wantTrue(t, "Copy", n.Copy(2))
	first, _ := n.Peek(0)
	second, _ := n.Peek(0)
	spoil(first)
	wantPacket(t, "peeked at twice", second, true, packet(10))
	wantFlight(t, "peeked at", n, packet(10), packet(20), packet(10), packet(10))
	taken, _ := n.Take(0)
	spoil(taken)
	wantPacket(t, "peeked at ahead of Take", second, true, packet(10))
	wantFlight(t, "a copy was taken", n, packet(20), packet(10), packet(10))
	taken, _ = n.Take(2)
	wantTrue(t, "Send of what was taken", n.Send(taken))
	spoil(taken)
	wantFlight(t, "sent again", n, packet(20), packet(10), packet(10))
}
