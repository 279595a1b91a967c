package cluster

import (
	"slices"

	"penstock/api"
	"penstock/wire"
)

// Do does an event of the script.
func (x *Cluster) Do(e api.Event) {
	if x == nil || len(x.hosts) == 0 {
		return
	}
	switch e.Kind {
	case api.EDeliver:
		x.deliver(e.A)
	case api.EDrop:
		x.way.Drop(e.A)
	case api.ECopy:
		x.way.Copy(e.A)
	case api.ETick:
		p := pick(x.parties, e.A)
		x.did(p, p.tick(uint64(e.B)))
	case api.ECut:
		x.way.Cut(pick(x.hosts, e.A).id, pick(x.hosts, e.B).id)
	case api.EHeal:
		x.way.Heal()
	case api.ECrash:
		pick(x.hosts, e.A).crash(e.B)
	case api.ERise:
		pick(x.hosts, e.A).rise(e.C)
	case api.EAgain:
		if len(x.users) > 0 {
			pick(x.users, e.A).client.Again()
		}
	case api.EMove:
		x.move(round(e.A, x.parts), e.B)
	}
}

// deliver takes a packet, and hands it on.
func (x *Cluster) deliver(i int) {
	p, ok := x.way.Take(i)
	if !ok {
		return
	}
	if m, e := wire.Decode(p.Body); e == api.OK {
		to := pick(x.parties, p.To)
		x.did(to, to.handle(m))
	}
}

// move asks every node to move a partition to as many nodes as each stands on, from one of them on.
func (x *Cluster) move(part, from int) {
	first := pick(x.hosts, from).id
	var list []int
	for i := range x.copies {
		list = append(list, pick(x.hosts, first+i).id)
	}
	slices.Sort(list)
	for _, h := range x.hosts {
		x.did(h, h.handle(api.Msg{Kind: api.MCmd, From: h.id, To: h.id, Cmd: api.Cmd{Kind: api.CMove, Part: part, List: list}}))
	}
}

// pick is the one that a number names, counted round.
func pick[T any](list []T, i int) T {
	return list[round(i, len(list))]
}

// round is a number counted round.
func round(i, count int) int {
	return (i%count + count) % count
}
