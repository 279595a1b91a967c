package node

import "penstock/api"

const readAtOnce = 8 // batches of an answer, at most

// takeRequest does what a client asks. Who isn't active doesn't know who leads, so it says nothing.
func (n *Node) takeRequest(m api.Msg) {
	k, ok := n.partOf(m)
	if !n.active || !ok {
		return
	}
	if e := n.unable(k, m.Kind); e != api.OK {
		n.send(toldTo(m, api.Msg{E: e}))
		return
	}
	switch m.Kind {
	case api.MProduce:
		n.produce(m)
	case api.MRead:
		n.read(m)
	case api.MInit:
		n.initTx(m)
	case api.MAdd:
		n.addToTx(m)
	case api.MEnd:
		n.endTx(m)
	default:
		n.takeOfGroup(m)
	}
}

// partOf is the partition that a request is about; false: it is no request.
func (n *Node) partOf(m api.Msg) (int, bool) {
	switch m.Kind {
	case api.MProduce, api.MRead:
		return m.Part, true
	case api.MInit, api.MAdd, api.MEnd:
		return n.txPart(), true
	case api.MJoin, api.MCommit, api.MTxCommit, api.MOffset:
		return n.grPart(), true
	}
	return 0, false
}

// unable is why the node can't do what is asked of a partition.
func (n *Node) unable(k, kind int) api.Errno {
	switch {
	case !n.isPart(k):
		return api.ErrArg
	case !n.leads(k):
		return api.ErrLeader
	case kind != api.MProduce && kind != api.MRead && !n.isReady(k):
		return api.ErrBusy
	}
	return api.OK
}

// toldTo is an answer to a request.
func toldTo(m, told api.Msg) api.Msg {
	told.Kind, told.To = api.MReply, m.From
	told.Corr, told.Inc, told.Tx = m.Corr, m.Inc, m.Tx
	return told
}

// answer tells what has come of a request to a partition. What the log has decided, be it by a refusal, is told when that is committed: till then another leader may decide otherwise. Who has to ask again anyway is told at once.
func (n *Node) answer(k int, m, told api.Msg) {
	told = toldTo(m, told)
	switch told.E {
	case api.OK, api.ErrFenced, api.ErrSeq, api.ErrTxn, api.ErrGen, api.ErrSpent:
		n.parts[k].wait(told)
	default:
		n.send(told)
	}
}

// refuse tells an error.
func (n *Node) refuse(k int, m api.Msg, e api.Errno) {
	n.answer(k, m, api.Msg{E: e})
}

func (n *Node) produce(m api.Msg) {
	if m.Batch.Control {
		n.refuse(m.Part, m, api.ErrForm)
		return
	}
	base, e := n.lay(m.Part, m.Batch)
	n.answer(m.Part, m, api.Msg{E: e, Offset: base})
}

// read tells what is committed, so that there is nothing to wait for.
func (n *Node) read(m api.Msg) {
	list, aborts, stable := n.parts[m.Part].log.Committed(m.Offset, readAtOnce)
	n.send(toldTo(m, api.Msg{Batches: list, Aborts: aborts, High: stable}))
}
