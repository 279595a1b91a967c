package wire

import (
	"penstock/api"
	"penstock/batch"
	"penstock/codec"
	"penstock/image"
)

// writer lays messages, and gives up at what is none.
type writer struct {
	*codec.Writer
}

// msg lays a message.
func (w writer) msg(m api.Msg) {
	needKind(m.Kind)
	w.ints(m.Kind, m.From, m.To, m.Corr, int(m.E))
	switch m.Kind {
	case api.MRaft:
		w.raft(m.Raft)
	case api.MFetch:
		w.fetch(m.Fetch)
	case api.MFetched:
		w.fetched(m.Fetched)
	case api.MCmd:
		w.cmd(m.Cmd)
	default:
		w.others(m)
	}
}

func (w writer) raft(m api.RMsg) {
	w.ints(m.Kind, m.From, m.To, m.Term, m.Index, m.LogTerm, m.Commit)
	w.Flag(m.Reject)
	layAll(w, m.Entries, w.entry)
	w.Bytes(m.Snap)
}

func (w writer) fetch(q api.FetchReq) {
	w.ints(q.Part, q.Epoch, q.Node, q.Offset, q.LastEpoch)
}

func (w writer) fetched(a api.FetchReply) {
	w.ints(a.Part, a.Epoch, int(a.E), a.High, a.EndEpoch, a.End, a.Offset, a.LastEpoch)
	w.Flag(a.Diverges)
	layAll(w, a.Batches, w.batch)
}

func (w writer) cmd(c api.Cmd) {
	text, e := image.Encode(c)
	need(e)
	w.Bytes(text)
}

// others lays what is behind the head of requests and replies: one form for all their kinds.
func (w writer) others(m api.Msg) {
	w.ints(m.Part, m.Offset, m.Tx, m.Inc, m.Epoch, m.Group, m.Gen, m.Member, m.High)
	w.Uint(m.Pid)
	w.Flag(m.Commit)
	needCount(uint64(len(m.Members)))
	w.Ints(m.Members)
	w.batch(m.Batch)
	layAll(w, m.Batches, w.batch)
	layAll(w, m.Aborts, w.abort)
}

func (w writer) entry(n api.Entry) {
	w.Int(n.Term)
	w.Bytes(n.Data)
}

// batch lays a batch's bytes. Where there is none stands one that layer 7 refuses: it has no bytes.
func (w writer) batch(b api.Batch) {
	if !b.Control && len(b.Values) == 0 {
		w.Bytes(nil)
		return
	}
	text, e := batch.Encode(b)
	need(e)
	w.Bytes(text)
}

func (w writer) abort(a api.Abort) {
	w.Uint(a.Pid)
	w.ints(a.First, a.Last)
}

// ints lays numbers, and not how many.
func (w writer) ints(numbers ...int) {
	for _, n := range numbers {
		w.Int(n)
	}
}

// layAll lays how many there are in a list, and each by one.
func layAll[T any](w writer, list []T, one func(T)) {
	needCount(uint64(len(list)))
	w.Uint(uint64(len(list)))
	for _, x := range list {
		one(x)
	}
}
