package replica

import "penstock/api"

const fetched = 8 // batches of an answer, at most

// office is what a replica knows as a leader; it is laid down with the epoch.
type office struct {
	isr       nodes
	askedFor  nodes // they may be in sync already, without the leader's knowing it
	others    [api.MaxNodes]other
	beginning int // the log's end when it began to lead
}

// Produce lays a batch behind the leader's log, if it may come next; one of the last ones again isn't laid: its offset is told. A marker of a producer that has gone on is none.
func (r *Replica) Produce(b api.Batch) (int, api.Errno) {
	if r.unopened() {
		return 0, api.ErrState
	}
	if !r.leads {
		return 0, api.ErrLeader
	}
	b.Base, b.Epoch = r.log.End(), r.epoch
	base, again, e := r.known.Check(b)
	if e != api.OK || again {
		return base, e
	}
	if r.endsNothing(b) {
		return r.log.End() - 1, api.OK
	}
	if e := r.lay(b); e != api.OK {
		return 0, e
	}
	r.rise()
	return b.Base, api.OK
}

// endsNothing tells whether that is a marker, and the transaction that it may be meant for has ended.
func (r *Replica) endsNothing(b api.Batch) bool {
	epoch, _, open, known := r.known.Known(b.Pid)
	return b.Control && known && epoch == b.PEpoch && open == none
}

// Fetch answers a follower.
func (r *Replica) Fetch(q api.FetchReq) api.FetchReply {
	if r.unopened() {
		return api.FetchReply{E: api.ErrState}
	}
	a := api.FetchReply{Part: r.part, Epoch: r.epoch}
	if a.E = r.refuses(q); a.E != api.OK {
		return a
	}
	epoch, end := r.endOfEpoch(q.LastEpoch)
	// Without an epoch the end is 0, so whoever has a log diverges then, too.
	if q.Offset > 0 && (epoch != q.LastEpoch || end < q.Offset) {
		a.Diverges, a.EndEpoch, a.End = true, epoch, end
		a.Offset, a.LastEpoch = q.Offset, q.LastEpoch
		return a
	}
	r.others[q.Node].ask(q.Offset, r.log.End())
	r.rise()
	a.High, a.Batches = r.high, r.log.Read(q.Offset, fetched)
	return a
}

// refuses is why a follower isn't answered.
func (r *Replica) refuses(q api.FetchReq) api.Errno {
	if !r.leads || q.Part != r.part || q.Epoch != r.epoch || !isNode(q.Node) || q.Node == r.me {
		return api.ErrLeader
	}
	if q.Offset < 0 || q.LastEpoch < none {
		return api.ErrOffset
	}
	return api.OK
}

// Ready tells whether the replica leads, and all that stood in its log when it began to is below the high watermark.
func (r *Replica) Ready() bool {
	return r.leading() && r.high >= r.beginning
}

// rise lets the high watermark come to where all in sync, and all that are asked for, have the log.
func (r *Replica) rise() {
	// A number that is no node's is one that never asks.
	if r.isr.strange || r.askedFor.strange {
		return
	}
	least := r.log.End()
	for n, o := range r.others {
		if n != r.me && (r.isr.in[n] || r.askedFor.in[n]) {
			least = min(least, o.reached())
		}
	}
	r.raise(least)
}
