package replica

import "penstock/api"

// Need is what a follower asks.
func (r *Replica) Need() (api.FetchReq, bool) {
	if r.unopened() || r.leads || r.epoch == none {
		return api.FetchReq{}, false
	}
	return api.FetchReq{Part: r.part, Epoch: r.epoch, Node: r.me, Offset: r.log.End(), LastEpoch: r.last}, true
}

// Accept takes a leader's answer: batches are laid behind the log; or what diverges is taken away.
func (r *Replica) Accept(a api.FetchReply) api.Errno {
	switch {
	case r.unopened():
		return api.ErrState
	case r.leads || a.Epoch != r.epoch || a.Part != r.part:
		return api.ErrLeader
	case a.E != api.OK:
		return a.E
	case a.Diverges:
		return r.comeBack(a)
	}
	if e := r.take(a.Batches); e != api.OK {
		return e
	}
	r.raise(min(a.High, r.log.End()))
	return api.OK
}

// comeBack cuts the log to where it may be the leader's.
func (r *Replica) comeBack(a api.FetchReply) api.Errno {
	if a.Offset != r.log.End() || a.LastEpoch != r.last {
		return api.ErrOffset
	}
	_, end := r.endOfEpoch(a.EndEpoch)
	to := max(min(a.End, end), 0)
	if to < r.high {
		return api.ErrOffset
	}
	return r.cut(to)
}

// take lays the batches that the log hasn't yet.
func (r *Replica) take(list []api.Batch) api.Errno {
	for _, b := range list {
		if b.Base < r.log.End() {
			continue
		}
		// Which of its errors comes first is as Put tells them.
		if e := r.lay(b); e != api.OK {
			return e
		}
	}
	return api.OK
}
