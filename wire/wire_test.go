package wire

import (
	"bytes"
	"fmt"
	"math"
	"slices"
	"testing"

	"penstock/api"
)

// The chapter's example.

func TestExample(t *testing.T) {
	m := api.Msg{Kind: api.MOffset, From: 3, To: 0, Corr: 1, Group: 1, Part: 2}
	text := []byte{28, 6, 0, 2, 0, 4, 0, 0, 0, 0, 2, 0, 0, 0, 0, 0, 0, 0, 0, 0}
	wantForm(t, "example 1", m, text)
	wantDecoded(t, "example 1", text, m)
}

// P17.1: the forms, written out.

func TestFormOfRaft(t *testing.T) {
	wantForm(t, "MRaft", full(api.MRaft), slices.Concat([]byte{2, 2, 3, 216, 4, 32},
		[]byte{6, 8, 10, 12, 14, 16, 18, 1},
		[]byte{3, 20, 3, 'o', 'n', 'e', 21, 0, 24, 1, 0},
		[]byte{4, 's', 'n', 'a', 'p'}))
	wantForm(t, "MRaft of nothing", api.Msg{Kind: api.MRaft}, []byte{2, 0, 0, 0, 0, 0, 0, 0, 0, 0, 0, 0, 0, 0, 0})
}

func TestFormOfFetch(t *testing.T) {
	wantForm(t, "MFetch", full(api.MFetch), []byte{4, 2, 3, 216, 4, 32, 26, 28, 30, 32, 33})
	wantForm(t, "MFetch of nothing", api.Msg{Kind: api.MFetch}, []byte{4, 0, 0, 0, 0, 0, 0, 0, 0, 0})
}

func TestFormOfFetched(t *testing.T) {
	wantForm(t, "MFetched", full(api.MFetched), slices.Concat([]byte{6, 2, 3, 216, 4, 32},
		[]byte{36, 38, 24, 40, 42, 44, 46, 48, 1},
		[]byte{3},
		[]byte{14, 50, 250, 1, 7, 208, 15, 6, 1, 0, 0, 2, 1, 'a', 0},
		[]byte{0},
		[]byte{10, 52, 4, 232, 7, 8, 0, 1, 1, 1, 0}))
	wantForm(t, "MFetched of nothing", api.Msg{Kind: api.MFetched}, []byte{6, 0, 0, 0, 0, 0, 0, 0, 0, 0, 0, 0, 0, 0, 0})
}

func TestFormOfCmd(t *testing.T) {
	wantForm(t, "MCmd", full(api.MCmd), []byte{8, 2, 3, 216, 4, 32, 8, 6, 54, 56, 58, 60, 2, 62, 63})
	wantForm(t, "MCmd of little", api.Msg{Kind: api.MCmd, Cmd: api.Cmd{Kind: api.CJoin}}, []byte{8, 0, 0, 0, 0, 6, 2, 0, 0, 0, 0, 0})
}

func TestFormOfOthers(t *testing.T) {
	for _, kind := range others() {
		wantForm(t, "one of the others", full(kind), slices.Concat([]byte{byte(2 * kind), 2, 3, 216, 4, 32},
			[]byte{68, 70, 72, 74, 78, 80, 82, 84, 104, 38, 1},
			[]byte{2, 86, 87},
			[]byte{13, 66, 138, 2, 7, 208, 15, 6, 1, 0, 0, 1, 1, 'b'},
			[]byte{2},
			[]byte{10, 90, 4, 232, 7, 8, 0, 1, 1, 1, 0},
			[]byte{15, 92, 164, 2, 7, 208, 15, 6, 1, 0, 0, 2, 1, 'c', 1, 'd'},
			[]byte{2, 47, 96, 98, 255, 255, 255, 255, 255, 255, 255, 255, 255, 1, 99, 101}))
		wantForm(t, "one of the others, of nothing", api.Msg{Kind: kind}, append([]byte{byte(2 * kind)}, make([]byte, 19)...))
	}
}

func TestKinds(t *testing.T) {
	for _, kind := range []int{math.MinInt, -15, -1, 0, 16, 17, 256 + 1, math.MaxInt} {
		wantNotEncoded(t, "no kind", api.Msg{Kind: kind}, api.ErrArg)
		wantNotEncoded(t, "no kind, but the rest", full(kind), api.ErrArg)
		wantNotDecoded(t, "no kind", formOf(api.Msg{Kind: kind}))
		wantNotDecoded(t, "no kind, but the rest", formOf(full(kind)))
		for _, other := range []int{api.MRaft, api.MFetch, api.MFetched, api.MCmd, api.MReply} {
			text := formOf(full(other))
			var head form
			head.int(kind)
			wantNotDecoded(t, "no kind", append(head.text, text[1:]...))
		}
	}
	for kind := api.MRaft; kind <= api.MReply; kind++ {
		wantBack(t, "each kind", full(kind))
	}
}

// TestNumbersOfAnySize: no number of a message is asked for its range, but its kind.
func TestNumbersOfAnySize(t *testing.T) {
	for _, n := range []int{math.MinInt, -1, 0, 1, 63, 64, math.MaxInt} {
		e, pid := api.Errno(n), uint64(n)
		for kind := api.MRaft; kind <= api.MReply; kind++ {
			wantBack(t, "numbers", api.Msg{
				Kind: kind, From: n, To: n, Corr: n, E: e, Part: n, Offset: n, Tx: n, Inc: n, Pid: pid, Epoch: n,
				Group: n, Gen: n, Member: n, Members: []int{n, n}, Aborts: []api.Abort{{Pid: pid, First: n, Last: n}}, High: n,
				Raft:    api.RMsg{Kind: n, From: n, To: n, Term: n, Index: n, LogTerm: n, Commit: n, Entries: []api.Entry{{Term: n}}},
				Fetch:   api.FetchReq{Part: n, Epoch: n, Node: n, Offset: n, LastEpoch: n},
				Fetched: api.FetchReply{Part: n, Epoch: n, E: e, High: n, EndEpoch: n, End: n, Offset: n, LastEpoch: n},
				Cmd:     api.Cmd{Kind: api.CMove, Node: n, Part: n, Epoch: n, Version: n, List: []int{n, n, n, n, n}},
			})
		}
	}
}

// Batches.

func TestNoBatch(t *testing.T) {
	// One without values that is no control batch has no bytes, whatever else it has, and layer 7 isn't asked.
	for _, b := range []api.Batch{
		{}, {Base: 5}, {Base: -1}, {Epoch: -1}, {Pid: 7}, {Pid: 1001}, {PEpoch: 1001}, {Seq: 3}, {Txn: true}, {Commit: true},
		{Base: 1, Epoch: 1, Pid: 1, PEpoch: 1, Seq: 1, Txn: true, Commit: true}, {Values: [][]byte{}},
	} {
		none, list := api.Batch{}, []api.Batch{{}, records(1, "a"), {}}
		given := []api.Batch{b, records(1, "a"), b}
		m := api.Msg{Kind: api.MReply, Batch: b, Batches: given}
		want := formOf(api.Msg{Kind: api.MReply, Batch: none, Batches: list})
		wantForm(t, "no batch", m, want)
		wantDecoded(t, "no batch", want, api.Msg{Kind: api.MReply, Batch: none, Batches: list})
		m = api.Msg{Kind: api.MFetched, Fetched: api.FetchReply{Batches: given}}
		wantForm(t, "no batch", m, formOf(api.Msg{Kind: api.MFetched, Fetched: api.FetchReply{Batches: list}}))
	}
}

func TestBatchesOfAnyKind(t *testing.T) {
	long := bytes.Repeat([]byte("x"), 64)
	for _, b := range []api.Batch{
		records(0, ""), records(0, "", "", ""), {Values: [][]byte{{1}}}, {Base: math.MaxInt, Epoch: math.MaxInt, Values: [][]byte{long}},
		{Pid: 1000, PEpoch: 1000, Seq: math.MaxInt, Values: slices.Repeat([][]byte{long}, 16)},
		marker(0), {Pid: 1, Txn: true, Control: true},
	} {
		wantBack(t, "a batch", api.Msg{Kind: api.MProduce, Batch: b})
		wantBack(t, "a batch", api.Msg{Kind: api.MReply, Batches: []api.Batch{b, b}})
		wantBack(t, "a batch", api.Msg{Kind: api.MFetched, Fetched: api.FetchReply{Batches: []api.Batch{b, b}}})
	}
}

// withBatch are the messages in which a batch stands in each place where one may.
func withBatch(kind int, b api.Batch) map[string]api.Msg {
	fine := records(9, "fine")
	if kind == api.MFetched {
		return map[string]api.Msg{
			"alone":  {Kind: kind, Fetched: api.FetchReply{Batches: []api.Batch{b}}},
			"last":   {Kind: kind, Fetched: api.FetchReply{Batches: []api.Batch{fine, {}, b}}},
			"middle": {Kind: kind, Fetched: api.FetchReply{Batches: []api.Batch{fine, b, fine}}},
		}
	}
	return map[string]api.Msg{
		"Batch":  {Kind: kind, Batch: b},
		"alone":  {Kind: kind, Batches: []api.Batch{b}},
		"last":   {Kind: kind, Batch: fine, Batches: []api.Batch{fine, {}, b}},
		"middle": {Kind: kind, Batches: []api.Batch{fine, b, fine}},
	}
}

func TestErrorsOfBatches(t *testing.T) {
	for what, e := range badBatches() {
		for _, kind := range append(others(), api.MFetched) {
			for place, m := range withBatch(kind, badBatch(what)) {
				wantNotEncoded(t, what+", "+place, m, e)
				wantNotDecoded(t, what+", "+place, formOf(m))
			}
		}
	}
}

func TestErrorsOfCommands(t *testing.T) {
	for _, c := range []api.Cmd{
		{}, {Kind: -1}, {Kind: 6}, {Kind: math.MaxInt}, {Kind: math.MinInt},
		{Kind: api.CMove, List: []int{0, 1, 2, 3, 4, 5}}, {Kind: api.CMove, List: make([]int, 5000)},
	} {
		m := api.Msg{Kind: api.MCmd, Cmd: c}
		wantNotEncoded(t, "no command", m, api.ErrArg)
		wantNotDecoded(t, "no command", formOf(m))
	}
	for kind := api.CJoin; kind <= api.CBlock; kind++ {
		// Layer 13 asks no more of a command's bytes: lists that don't rise, and nodes that there aren't, are an image's.
		wantBack(t, "a command", api.Msg{Kind: api.MCmd, Cmd: api.Cmd{Kind: kind, Node: -5, List: []int{4, 3, 3, -2, 1}}})
	}
}

// Counts and pieces.

// many is a message that has n of a kind of things.
func many(what string, n int) api.Msg {
	switch what {
	case "entries":
		return api.Msg{Kind: api.MRaft, Raft: api.RMsg{Entries: slices.Repeat([]api.Entry{{Term: 1, Data: []byte("x")}}, n), Snap: []byte("y")}}
	case "batches":
		return api.Msg{Kind: api.MReply, Batches: slices.Repeat([]api.Batch{records(1, "a")}, n), High: 4}
	case "no batches":
		return api.Msg{Kind: api.MReply, Batches: make([]api.Batch, n)}
	case "fetched":
		return api.Msg{Kind: api.MFetched, Fetched: api.FetchReply{Batches: slices.Repeat([]api.Batch{marker(1)}, n)}}
	case "members":
		return api.Msg{Kind: api.MReply, Members: slices.Repeat([]int{-3}, n), High: 4}
	default:
		return api.Msg{Kind: api.MReply, Aborts: slices.Repeat([]api.Abort{{Pid: 1, First: 2, Last: 3}}, n), High: 4}
	}
}

func TestCounts(t *testing.T) {
	for _, what := range []string{"entries", "batches", "no batches", "fetched", "members", "aborts"} {
		for _, n := range []int{0, 1, 127, 128, 511, 512} {
			wantBack(t, fmt.Sprint(n, " ", what), many(what, n))
		}
		for _, n := range []int{513, 514, 1024, 4096, 4097, 70000} {
			wantNotEncoded(t, fmt.Sprint(n, " ", what), many(what, n), api.ErrLong)
			wantNotDecoded(t, fmt.Sprint(n, " ", what), formOf(many(what, n)))
		}
	}
}

func TestPieces(t *testing.T) {
	for _, n := range []int{0, 1, 4095, 4096, 4097, 5000, 100000} {
		long := bytes.Repeat([]byte{7}, n)
		for what, x := range map[string]api.RMsg{
			"first entry": {Entries: []api.Entry{{Term: 1, Data: long}, {Term: 2}}, Snap: []byte("s")},
			"last entry":  {Entries: []api.Entry{{Term: 2}, {Term: 1, Data: long}}},
			"snapshot":    {Entries: []api.Entry{{Term: 2}}, Snap: long},
		} {
			m := api.Msg{Kind: api.MRaft, Raft: x}
			if n <= 4096 {
				wantBack(t, what, m)
				continue
			}
			wantNotEncoded(t, what, m, api.ErrLong)
			wantNotDecoded(t, what, formOf(m))
		}
	}
	// All pieces together may have more.
	piece := bytes.Repeat([]byte{9}, 4096)
	wantBack(t, "long pieces", api.Msg{Kind: api.MRaft, Raft: api.RMsg{Entries: slices.Repeat([]api.Entry{{Data: piece}}, 512), Snap: piece}})
}

// TestOrderOfErrors: the kind; then what is met first.
func TestOrderOfErrors(t *testing.T) {
	arg, kind, long := badBatch("Base below 0"), badBatch("Txn without Pid"), badBatch("65 bytes")
	tooMany := func(b api.Batch) []api.Batch { return slices.Repeat([]api.Batch{b}, 513) }
	for what, x := range map[string]struct {
		m api.Msg
		e api.Errno
	}{
		"kind ahead of a batch":          {api.Msg{Kind: 16, Batch: kind, Batches: []api.Batch{long}}, api.ErrArg},
		"kind ahead of members":          {api.Msg{Kind: 0, Members: make([]int, 513)}, api.ErrArg},
		"kind ahead of pieces":           {api.Msg{Kind: 0, Raft: api.RMsg{Snap: make([]byte, 4097)}}, api.ErrArg},
		"members ahead of Batch, ErrArg": {api.Msg{Kind: api.MReply, Members: make([]int, 513), Batch: arg}, api.ErrLong},
		"members ahead of Batch":         {api.Msg{Kind: api.MReply, Members: make([]int, 513), Batch: kind}, api.ErrLong},
		"members ahead of Batches":       {api.Msg{Kind: api.MReply, Members: make([]int, 513), Batches: []api.Batch{kind}}, api.ErrLong},
		"Batch ahead of Batches":         {api.Msg{Kind: api.MReply, Batch: kind, Batches: []api.Batch{arg}}, api.ErrForm},
		"Batch ahead of many Batches":    {api.Msg{Kind: api.MReply, Batch: kind, Batches: tooMany(records(1, "a"))}, api.ErrForm},
		"many Batches ahead of each":     {api.Msg{Kind: api.MReply, Batches: tooMany(kind)}, api.ErrLong},
		"first of Batches":               {api.Msg{Kind: api.MReply, Batches: []api.Batch{{}, long, arg, kind}}, api.ErrLong},
		"first of Batches, ErrForm":      {api.Msg{Kind: api.MReply, Batches: []api.Batch{kind, arg, long}}, api.ErrForm},
		"first of Batches, ErrArg":       {api.Msg{Kind: api.MReply, Batches: []api.Batch{arg, long, kind}}, api.ErrArg},
		"Batches ahead of aborts":        {api.Msg{Kind: api.MReply, Batches: []api.Batch{kind}, Aborts: make([]api.Abort, 513)}, api.ErrForm},
		"Batch ahead of aborts":          {api.Msg{Kind: api.MReply, Batch: arg, Aborts: make([]api.Abort, 513)}, api.ErrArg},
		"many fetched ahead of each":     {api.Msg{Kind: api.MFetched, Fetched: api.FetchReply{Batches: tooMany(arg)}}, api.ErrLong},
		"first of those fetched":         {api.Msg{Kind: api.MFetched, Fetched: api.FetchReply{Batches: []api.Batch{kind, arg}}}, api.ErrForm},
		"entries and pieces":             {api.Msg{Kind: api.MRaft, Raft: api.RMsg{Entries: make([]api.Entry, 513), Snap: make([]byte, 4097)}}, api.ErrLong},
	} {
		wantNotEncoded(t, what, x.m, x.e)
	}
}

// TestFaultsOfOtherKinds: what a kind hasn't is not asked.
func TestFaultsOfOtherKinds(t *testing.T) {
	bad := badBatch("Base below 0")
	faults := api.Msg{
		Raft:    api.RMsg{Entries: make([]api.Entry, 513), Snap: make([]byte, 4097)},
		Fetched: api.FetchReply{Batches: []api.Batch{bad}},
		Batch:   bad, Members: make([]int, 513), Batches: make([]api.Batch, 513), Aborts: make([]api.Abort, 513),
	}
	for kind := api.MRaft; kind <= api.MReply; kind++ {
		m, fine := faults, full(kind)
		m.Kind = kind
		switch kind {
		case api.MRaft:
			m.Raft = fine.Raft
		case api.MFetched:
			m.Fetched = fine.Fetched
		case api.MCmd:
			m.Cmd = fine.Cmd
		case api.MFetch:
		default:
			fine.Raft, fine.Fetched = faults.Raft, faults.Fetched
			m = fine
		}
		wantBack(t, "faults of other kinds", m)
	}
}
