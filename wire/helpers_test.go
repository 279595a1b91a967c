package wire

import (
	"bytes"
	"encoding/binary"
	"fmt"
	"math"
	"slices"
	"strings"
	"testing"

	"penstock/api"
)

// form lays the document's words anew, without layer 3: each piece by the library's numbers.
type form struct{ text []byte }

func (f *form) int(numbers ...int) {
	for _, n := range numbers {
		f.text = binary.AppendVarint(f.text, int64(n))
	}
}

func (f *form) uint(n uint64) { f.text = binary.AppendUvarint(f.text, n) }

func (f *form) flag(b bool) {
	if b {
		f.uint(1)
	} else {
		f.uint(0)
	}
}

func (f *form) bytes(b []byte) {
	f.uint(uint64(len(b)))
	f.text = append(f.text, b...)
}

func (f *form) batch(b api.Batch) {
	if !b.Control && len(b.Values) == 0 {
		f.bytes(nil)
		return
	}
	f.bytes(batchForm(b))
}

func (f *form) batches(list []api.Batch) {
	f.uint(uint64(len(list)))
	for _, b := range list {
		f.batch(b)
	}
}

// batchForm is a batch's form, whether layer 7 refuses it or not.
func batchForm(b api.Batch) []byte {
	var f form
	f.int(b.Base, b.Epoch)
	f.uint(b.Pid)
	f.int(b.PEpoch, b.Seq)
	f.flag(b.Txn)
	f.flag(b.Control)
	f.flag(b.Commit)
	f.uint(uint64(len(b.Values)))
	for _, v := range b.Values {
		f.bytes(v)
	}
	return f.text
}

// cmdForm is a command's form, whether it is one or not.
func cmdForm(c api.Cmd) []byte {
	var f form
	f.int(c.Kind, c.Node, c.Part, c.Epoch, c.Version)
	f.uint(uint64(len(c.List)))
	f.int(c.List...)
	return f.text
}

// formOf is a message's form, whether it is one or not.
func formOf(m api.Msg) []byte {
	var f form
	f.int(m.Kind, m.From, m.To, m.Corr, int(m.E))
	switch m.Kind {
	case api.MRaft:
		x := m.Raft
		f.int(x.Kind, x.From, x.To, x.Term, x.Index, x.LogTerm, x.Commit)
		f.flag(x.Reject)
		f.uint(uint64(len(x.Entries)))
		for _, n := range x.Entries {
			f.int(n.Term)
			f.bytes(n.Data)
		}
		f.bytes(x.Snap)
	case api.MFetch:
		x := m.Fetch
		f.int(x.Part, x.Epoch, x.Node, x.Offset, x.LastEpoch)
	case api.MFetched:
		x := m.Fetched
		f.int(x.Part, x.Epoch, int(x.E), x.High, x.EndEpoch, x.End, x.Offset, x.LastEpoch)
		f.flag(x.Diverges)
		f.batches(x.Batches)
	case api.MCmd:
		f.bytes(cmdForm(m.Cmd))
	default:
		f.int(m.Part, m.Offset, m.Tx, m.Inc, m.Epoch, m.Group, m.Gen, m.Member, m.High)
		f.uint(m.Pid)
		f.flag(m.Commit)
		f.uint(uint64(len(m.Members)))
		f.int(m.Members...)
		f.batch(m.Batch)
		f.batches(m.Batches)
		f.uint(uint64(len(m.Aborts)))
		for _, a := range m.Aborts {
			f.uint(a.Pid)
			f.int(a.First, a.Last)
		}
	}
	return f.text
}

// full is a message of a kind in which every field has a value of its own, those of the other kinds too.
func full(kind int) api.Msg {
	return api.Msg{
		Kind: kind, From: 1, To: -2, Corr: 300, E: api.ErrBusy,
		Raft: api.RMsg{
			Kind: 3, From: 4, To: 5, Term: 6, Index: 7, LogTerm: 8, Commit: 9, Reject: true,
			Entries: []api.Entry{{Term: 10, Data: []byte("one")}, {Term: -11}, {Term: 12, Data: []byte{0}}}, Snap: []byte("snap"),
		},
		Fetch: api.FetchReq{Part: 13, Epoch: 14, Node: 15, Offset: 16, LastEpoch: -17},
		Fetched: api.FetchReply{
			Part: 18, Epoch: 19, E: api.ErrLeader, High: 20, Diverges: true, EndEpoch: 21, End: 22, Offset: 23, LastEpoch: 24,
			Batches: []api.Batch{records(25, "a", ""), {}, marker(26)},
		},
		Cmd:   api.Cmd{Kind: api.CIsr, Node: 27, Part: 28, Epoch: 29, Version: 30, List: []int{31, -32}},
		Batch: records(33, "b"),
		Part:  34, Offset: 35, Tx: 36, Inc: 37, Pid: 38, Epoch: 39, Commit: true, Group: 40, Gen: 41, Member: 42,
		Members: []int{43, -44}, Batches: []api.Batch{marker(45), records(46, "c", "d")},
		Aborts: []api.Abort{{Pid: 47, First: 48, Last: 49}, {Pid: math.MaxUint64, First: -50, Last: -51}}, High: 52,
	}
}

// records is a batch of values, and marker is a control batch.
func records(base int, values ...string) api.Batch {
	b := api.Batch{Base: base, Epoch: base + 100, Pid: 7, PEpoch: 1000, Seq: 3, Txn: true}
	for _, v := range values {
		b.Values = append(b.Values, []byte(v))
	}
	return b
}

func marker(base int) api.Batch {
	return api.Batch{Base: base, Epoch: 2, Pid: 1000, PEpoch: 4, Txn: true, Control: true, Commit: true}
}

// alone is a message without the fields that its kind hasn't.
func alone(m api.Msg) api.Msg {
	head := api.Msg{Kind: m.Kind, From: m.From, To: m.To, Corr: m.Corr, E: m.E}
	switch m.Kind {
	case api.MRaft:
		head.Raft = m.Raft
	case api.MFetch:
		head.Fetch = m.Fetch
	case api.MFetched:
		head.Fetched = m.Fetched
	case api.MCmd:
		head.Cmd = m.Cmd
	default:
		m.Raft, m.Fetch, m.Fetched, m.Cmd = api.RMsg{}, api.FetchReq{}, api.FetchReply{}, api.Cmd{}
		return m
	}
	return head
}

// textOf is a message as a text in which a nil list and an empty one are one.
func textOf(m api.Msg) string {
	return fmt.Sprintf("%+v", m)
}

// short is the beginning of a message's text, since some have hundreds of parts.
func short(m api.Msg) string {
	return textOf(m)[:min(300, len(textOf(m)))]
}

func wantForm(t *testing.T, what string, m api.Msg, want []byte) {
	t.Helper()
	if text, e := Encode(m); e != api.OK || !bytes.Equal(text, want) {
		t.Errorf("%s: Encode(%s) = %d, %d, want %d", what, short(m), text, e, want)
	}
}

func wantDecoded(t *testing.T, what string, text []byte, want api.Msg) {
	t.Helper()
	if m, e := Decode(text); e != api.OK || textOf(m) != textOf(want) {
		t.Errorf("%s: Decode = %s, %d, want %s", what, short(m), e, short(want))
	}
}

// wantBack: a message is encoded in its form, and decoded again without the fields that its kind hasn't.
func wantBack(t *testing.T, what string, m api.Msg) {
	t.Helper()
	wantForm(t, what, m, formOf(m))
	wantDecoded(t, what, formOf(m), alone(m))
}

func wantNotEncoded(t *testing.T, what string, m api.Msg, want api.Errno) {
	t.Helper()
	if text, e := Encode(m); e != want || len(text) != 0 {
		t.Errorf("%s: Encode(%s) = %d, %d, want %d", what, short(m), text, e, want)
	}
}

func wantNotDecoded(t *testing.T, what string, text []byte) {
	t.Helper()
	if m, e := Decode(text); e == api.OK || textOf(m) != textOf(api.Msg{}) {
		t.Errorf("%s: Decode = %s, %d, want an error alone", what, short(m), e)
	}
}

// others are the kinds that have one form.
func others() []int {
	return []int{api.MProduce, api.MRead, api.MInit, api.MAdd, api.MEnd, api.MMarker, api.MJoin, api.MCommit, api.MTxCommit, api.MOffset, api.MReply}
}

// badBatches are batches that layer 7 refuses, each with its error.
func badBatches() map[string]api.Errno {
	return map[string]api.Errno{
		"Base below 0": api.ErrArg, "Epoch below 0": api.ErrArg, "PEpoch below 0": api.ErrArg, "Seq below 0": api.ErrArg,
		"PEpoch above 1000": api.ErrArg, "Pid above 1000": api.ErrArg,
		"Commit without Control": api.ErrForm, "Control with values": api.ErrForm, "Control without Txn": api.ErrForm,
		"Control with Seq": api.ErrForm, "Txn without Pid": api.ErrForm,
		"17 values": api.ErrLong, "65 bytes": api.ErrLong,
	}
}

func badBatch(what string) api.Batch {
	b, c := records(1, "a"), marker(1)
	switch what {
	case "Base below 0":
		b.Base = -1
	case "Epoch below 0":
		b.Epoch = -1
	case "PEpoch below 0":
		b.PEpoch = -1
	case "Seq below 0":
		b.Seq = -1
	case "PEpoch above 1000":
		b.PEpoch = 1001
	case "Pid above 1000":
		b.Pid = 1001
	case "Commit without Control":
		b.Commit = true
	case "Control with values":
		c.Values = b.Values
		return c
	case "Control without Txn":
		c.Txn = false
		return c
	case "Control with Seq":
		c.Seq = 1
		return c
	case "Txn without Pid":
		b = api.Batch{Txn: true, Values: b.Values}
	case "17 values":
		b.Values = slices.Repeat(b.Values, 17)
	case "65 bytes":
		b.Values = [][]byte{[]byte(strings.Repeat("x", 65))}
	}
	return b
}
