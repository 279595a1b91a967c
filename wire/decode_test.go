package wire

import (
	"bytes"
	"math/rand"
	"slices"
	"testing"

	"penstock/api"
)

// P17.2: what is no message's bytes.

func TestDecodeOfCutBytes(t *testing.T) {
	wantNotDecoded(t, "nil", nil)
	wantNotDecoded(t, "nothing", []byte{})
	for kind := api.MRaft; kind <= api.MReply; kind++ {
		text := formOf(full(kind))
		for size := range text {
			wantNotDecoded(t, "cut", text[:size])
		}
		wantNotDecoded(t, "a byte more", append(bytes.Clone(text), 0))
		wantNotDecoded(t, "twice", append(bytes.Clone(text), text...))
	}
}

// TestDecodeOfLongNumbers: each number in its shortest form, in each place.
func TestDecodeOfLongNumbers(t *testing.T) {
	for _, kind := range []int{api.MRaft, api.MFetch, api.MFetched, api.MReply} {
		text := formOf(api.Msg{Kind: kind})
		for at := range text {
			wantNotDecoded(t, "a long number", slices.Replace(bytes.Clone(text), at, at+1, text[at]|128, 0))
		}
	}
}

// TestDecodeOfFlags: a flag is 0 or 1.
func TestDecodeOfFlags(t *testing.T) {
	for what, x := range map[string]struct {
		kind, at int
	}{
		"Reject":   {api.MRaft, 12},
		"Diverges": {api.MFetched, 13},
		"Commit":   {api.MInit, 15},
	} {
		text := formOf(api.Msg{Kind: x.kind})
		text[x.at] = 1
		m, e := Decode(text)
		if e != api.OK || !m.Raft.Reject && !m.Fetched.Diverges && !m.Commit {
			t.Errorf("%s: Decode(%d) = %+v, %d", what, text, m, e)
		}
		text[x.at] = 2
		wantNotDecoded(t, what, text)
	}
}

// laidBatch is a message whose Batch has these bytes, and laidCmd one whose command has them.
func laidBatch(b []byte) []byte {
	text := formOf(api.Msg{Kind: api.MReply})
	var f form
	f.bytes(b)
	return slices.Replace(text, 17, 18, f.text...)
}

func laidCmd(b []byte) []byte {
	var f form
	f.int(api.MCmd, 0, 0, 0, 0)
	f.bytes(b)
	return f.text
}

func TestDecodeOfBytesOfABatch(t *testing.T) {
	fine := records(1, "a")
	wantDecoded(t, "a batch", laidBatch(batchForm(fine)), api.Msg{Kind: api.MReply, Batch: fine})
	wantDecoded(t, "no batch", laidBatch(nil), api.Msg{Kind: api.MReply})
	// What has no bytes has no other form, either.
	wantNotDecoded(t, "the form of no batch", laidBatch(batchForm(api.Batch{})))
	wantNotDecoded(t, "the form of no batch", laidBatch(batchForm(api.Batch{Base: 5})))
	text := batchForm(fine)
	for size := 1; size < len(text); size++ {
		wantNotDecoded(t, "cut", laidBatch(text[:size]))
	}
	wantNotDecoded(t, "a byte more", laidBatch(append(text, 0)))
	wantNotDecoded(t, "too long", laidBatch(make([]byte, 4097)))
}

func TestDecodeOfBytesOfACommand(t *testing.T) {
	fine := api.Cmd{Kind: api.CMove, Part: 2, List: []int{0, 1}}
	text := cmdForm(fine)
	wantDecoded(t, "a command", laidCmd(text), api.Msg{Kind: api.MCmd, Cmd: fine})
	for size := range text {
		wantNotDecoded(t, "cut", laidCmd(text[:size]))
	}
	wantNotDecoded(t, "a byte more", laidCmd(append(text, 0)))
	wantNotDecoded(t, "too long", laidCmd(make([]byte, 4097)))
}

// TestDecodeOfGreatCounts: a count for which there are no bytes ends soon all the same.
func TestDecodeOfGreatCounts(t *testing.T) {
	for _, count := range []uint64{1, 512, 513, 4097, 1 << 32, 1 << 63, 1<<64 - 1} {
		for what, x := range map[string]struct {
			kind, at int
		}{
			"entries": {api.MRaft, 13}, "snapshot": {api.MRaft, 14}, "fetched": {api.MFetched, 14},
			"members": {api.MReply, 16}, "batch": {api.MReply, 17}, "batches": {api.MReply, 18}, "aborts": {api.MReply, 19},
		} {
			text := formOf(api.Msg{Kind: x.kind})
			var f form
			f.uint(count)
			wantNotDecoded(t, what, slices.Replace(text, x.at, len(text), f.text...))
		}
	}
}

// P17.3: there and back.

func drawnBatch(draw *rand.Rand) api.Batch {
	switch draw.Intn(4) {
	case 0:
		return api.Batch{}
	case 1:
		return marker(draw.Intn(1000))
	}
	b := records(draw.Intn(1000))
	for range 1 + draw.Intn(16) {
		b.Values = append(b.Values, drawnBytes(draw, 64))
	}
	return b
}

func drawnBytes(draw *rand.Rand, most int) []byte {
	b := make([]byte, draw.Intn(most+1))
	draw.Read(b)
	return b
}

// drawnMsg has something in each field, and lists of none up to some.
func drawnMsg(draw *rand.Rand) api.Msg {
	n := func() int { return int(draw.Uint64()) >> draw.Intn(64) }
	m := full(1 + draw.Intn(15))
	m.From, m.To, m.Corr, m.E, m.Part, m.Offset, m.Tx, m.Inc = n(), n(), n(), api.Errno(n()), n(), n(), n(), n()
	m.Pid, m.Epoch, m.Commit, m.Group, m.Gen, m.Member, m.High = draw.Uint64(), n(), draw.Intn(2) == 0, n(), n(), n(), n()
	m.Fetch = api.FetchReq{Part: n(), Epoch: n(), Node: n(), Offset: n(), LastEpoch: n()}
	m.Fetched = api.FetchReply{Part: n(), Epoch: n(), E: api.Errno(n()), High: n(), Diverges: draw.Intn(2) == 0, EndEpoch: n(), End: n(), Offset: n(), LastEpoch: n()}
	m.Raft = api.RMsg{Kind: n(), From: n(), To: n(), Term: n(), Index: n(), LogTerm: n(), Commit: n(), Reject: draw.Intn(2) == 0, Snap: drawnBytes(draw, 200)}
	m.Cmd = api.Cmd{Kind: 1 + draw.Intn(5), Node: n(), Part: n(), Epoch: n(), Version: n()}
	m.Batch, m.Members, m.Batches, m.Aborts = drawnBatch(draw), nil, nil, nil
	for range draw.Intn(6) {
		m.Cmd.List = append(m.Cmd.List[:min(4, len(m.Cmd.List))], n())
		m.Raft.Entries = append(m.Raft.Entries, api.Entry{Term: n(), Data: drawnBytes(draw, 50)})
		m.Members = append(m.Members, n())
		m.Aborts = append(m.Aborts, api.Abort{Pid: draw.Uint64() >> draw.Intn(64), First: n(), Last: n()})
	}
	for range draw.Intn(4) {
		m.Batches = append(m.Batches, drawnBatch(draw))
		m.Fetched.Batches = append(m.Fetched.Batches, drawnBatch(draw))
	}
	return m
}

func TestThereAndBack(t *testing.T) {
	draw := rand.New(rand.NewSource(17))
	for range 20000 {
		wantBack(t, "a drawn message", drawnMsg(draw))
	}
}

// wantOneForm: what is a message is so in one form alone; else there is no message.
func wantOneForm(t *testing.T, text []byte) bool {
	t.Helper()
	m, e := Decode(text)
	if e != api.OK {
		wantNotDecoded(t, "no message", text)
		return false
	}
	wantForm(t, "again", m, text)
	if textOf(alone(m)) != textOf(m) {
		t.Errorf("Decode(%d) has more than its kind: %+v", text, m)
	}
	return true
}

// TestDecodeOfChangedBytes: bytes of messages, some of them changed.
func TestDecodeOfChangedBytes(t *testing.T) {
	draw := rand.New(rand.NewSource(18))
	read := 0
	for range 40000 {
		text := formOf(drawnMsg(draw))
		for range 1 + draw.Intn(2) {
			text[draw.Intn(len(text))] = byte(draw.Intn(256) >> draw.Intn(8))
		}
		if wantOneForm(t, text) {
			read++
		}
	}
	if read < 4000 || read > 36000 {
		t.Errorf("%d messages were read", read)
	}
}

func FuzzDecode(f *testing.F) {
	for kind := api.MRaft; kind <= api.MReply; kind++ {
		f.Add(formOf(full(kind)))
	}
	f.Fuzz(func(t *testing.T, text []byte) { wantOneForm(t, text) })
}

// The rules that hold everywhere.

// spoil overwrites all lists of a message, and their spare room.
func spoil(m *api.Msg) {
	spoilBatch := func(b *api.Batch) {
		for _, v := range b.Values {
			clear(v[:cap(v)])
		}
		clear(b.Values[:cap(b.Values)])
	}
	spoilBatch(&m.Batch)
	for _, list := range [][]api.Batch{m.Batches, m.Fetched.Batches} {
		for i := range list {
			spoilBatch(&list[i])
		}
		clear(list[:cap(list)])
	}
	for _, n := range m.Raft.Entries {
		clear(n.Data[:cap(n.Data)])
	}
	clear(m.Raft.Entries[:cap(m.Raft.Entries)])
	clear(m.Raft.Snap[:cap(m.Raft.Snap)])
	clear(m.Cmd.List[:cap(m.Cmd.List)])
	clear(m.Members[:cap(m.Members)])
	clear(m.Aborts[:cap(m.Aborts)])
}

func TestSharesNothing(t *testing.T) {
	for kind := api.MRaft; kind <= api.MReply; kind++ {
		m := full(kind)
		m.Members = append(m.Members, 70, 71)[:2]
		m.Batch.Values = append(m.Batch.Values, []byte("spare"))[:1]
		first, _ := Encode(m)
		second, _ := Encode(m)
		if textOf(m) != textOf(full(kind)) || m.Members[:4][3] != 71 || string(m.Batch.Values[:2][1]) != "spare" {
			t.Errorf("Encode has changed its message to %+v", m)
		}
		spoil(&m)
		clear(first[:cap(first)])
		if !bytes.Equal(second, formOf(full(kind))) {
			t.Errorf("kind %d: an answer of Encode is shared", kind)
		}
		spare := append(second, 9, 9)[:len(second)]
		one, _ := Decode(spare)
		two, _ := Decode(spare)
		if !bytes.Equal(spare[:len(spare)+2], append(formOf(full(kind)), 9, 9)) {
			t.Errorf("kind %d: Decode has changed its bytes", kind)
		}
		spoil(&one)
		clear(spare)
		if textOf(two) != textOf(alone(full(kind))) {
			t.Errorf("kind %d: an answer of Decode is shared: %+v", kind, two)
		}
	}
}

// TestListsOfOneAnswerShareNothing: one that grows doesn't reach into another.
func TestListsOfOneAnswerShareNothing(t *testing.T) {
	for kind := api.MRaft; kind <= api.MReply; kind++ {
		m, _ := Decode(formOf(full(kind)))
		want := textOf(m)
		for _, n := range m.Raft.Entries {
			_ = append(n.Data, "grown"...)
		}
		for _, list := range [][]api.Batch{{m.Batch}, m.Batches, m.Fetched.Batches} {
			for _, b := range list {
				for _, v := range b.Values {
					_ = append(v, "grown"...)
				}
			}
		}
		_ = append(m.Raft.Snap, "grown"...)
		if got := textOf(m); got != want {
			t.Errorf("kind %d: %s, and behind what grew %s", kind, want, got)
		}
	}
}

// TestOtherPanicsAreNotHidden: only what gave up is taken up.
func TestOtherPanicsAreNotHidden(t *testing.T) {
	if e := tried(func() {}); e != api.OK {
		t.Errorf("tried nothing: %d", e)
	}
	for _, e := range []api.Errno{api.ErrArg, api.ErrLong, api.ErrForm, api.ErrEnd} {
		if got := tried(func() { need(api.OK); need(e); t.Error("went on") }); got != e {
			t.Errorf("tried = %d, want %d", got, e)
		}
	}
	defer func() {
		if recover() == nil {
			t.Error("a panic that isn't an error is hidden")
		}
	}()
	tried(func() { panic("else") })
}
