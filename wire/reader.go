package wire

import (
	"penstock/api"
	"penstock/batch"
	"penstock/codec"
	"penstock/image"
)

// reader takes messages, and gives up at what is none.
type reader struct {
	*codec.Reader
}

// msg takes a message, behind which there is nothing.
func (r reader) msg() api.Msg {
	m := r.head()
	switch m.Kind {
	case api.MRaft:
		m.Raft = r.raft()
	case api.MFetch:
		m.Fetch = r.fetch()
	case api.MFetched:
		m.Fetched = r.fetched()
	case api.MCmd:
		m.Cmd = r.cmd()
	default:
		r.others(&m)
	}
	need(r.End())
	return m
}

func (r reader) head() api.Msg {
	m := api.Msg{
		Kind: r.Int(),
		From: r.Int(),
		To:   r.Int(),
		Corr: r.Int(),
		E:    api.Errno(r.Int()),
	}
	needKind(m.Kind)
	return m
}

func (r reader) raft() api.RMsg {
	return api.RMsg{
		Kind:    r.Int(),
		From:    r.Int(),
		To:      r.Int(),
		Term:    r.Int(),
		Index:   r.Int(),
		LogTerm: r.Int(),
		Commit:  r.Int(),
		Reject:  r.Flag(),
		Entries: takeAll(r, r.entry),
		Snap:    r.Bytes(),
	}
}

func (r reader) fetch() api.FetchReq {
	return api.FetchReq{
		Part:      r.Int(),
		Epoch:     r.Int(),
		Node:      r.Int(),
		Offset:    r.Int(),
		LastEpoch: r.Int(),
	}
}

func (r reader) fetched() api.FetchReply {
	return api.FetchReply{
		Part:      r.Int(),
		Epoch:     r.Int(),
		E:         api.Errno(r.Int()),
		High:      r.Int(),
		EndEpoch:  r.Int(),
		End:       r.Int(),
		Offset:    r.Int(),
		LastEpoch: r.Int(),
		Diverges:  r.Flag(),
		Batches:   takeAll(r, r.batch),
	}
}

func (r reader) cmd() api.Cmd {
	c, e := image.Decode(r.Bytes())
	need(e)
	return c
}

// others takes what is behind the head of requests and replies.
func (r reader) others(m *api.Msg) {
	m.Part = r.Int()
	m.Offset = r.Int()
	m.Tx = r.Int()
	m.Inc = r.Int()
	m.Epoch = r.Int()
	m.Group = r.Int()
	m.Gen = r.Int()
	m.Member = r.Int()
	m.High = r.Int()
	m.Pid = r.Uint()
	m.Commit = r.Flag()
	m.Members = r.Ints()
	needCount(uint64(len(m.Members)))
	m.Batch = r.batch()
	m.Batches = takeAll(r, r.batch)
	m.Aborts = takeAll(r, r.abort)
}

func (r reader) entry() api.Entry {
	return api.Entry{Term: r.Int(), Data: r.Bytes()}
}

// batch takes a batch's bytes: where there are none there is no batch.
func (r reader) batch() api.Batch {
	text := r.Bytes()
	if len(text) == 0 {
		return api.Batch{}
	}
	b, e := batch.Decode(text)
	need(e)
	return b
}

func (r reader) abort() api.Abort {
	return api.Abort{Pid: r.Uint(), First: r.Int(), Last: r.Int()}
}

// takeAll takes how many there are in a list, and each by one.
func takeAll[T any](r reader, one func() T) []T {
	count := r.Uint()
	needCount(count)
	var list []T
	for range int(count) {
		list = append(list, one())
	}
	return list
}
