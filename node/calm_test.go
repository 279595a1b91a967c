package node

import (
	"fmt"
	"slices"
	"testing"

	"penstock/api"
	"penstock/batch"
	"penstock/disk"
)

// has tells whether a node has a record without a producer in a partition, at an offset.
func (x *crowd) has(id, k, offset int, value string) bool {
	log, _, _ := x.nodes[id].Part(k)
	return slices.ContainsFunc(log, func(b api.Batch) bool { return b.Base == offset && string(b.Values[0]) == value })
}

// wantLaid: a leader that is asked to lay answers within 40 rounds, and not ahead of all in sync having it.
func (x *crowd) wantLaid(k int) {
	x.t.Helper()
	value := fmt.Sprint("laid", x.asked)
	leader, isr := x.part(k).Leader, x.part(k).Isr
	corr := x.ask(leader, api.Msg{Kind: api.MProduce, Part: k, Batch: records(value)})
	for range 40 {
		if _, ok := x.reply(corr); ok {
			break
		}
		x.calmRound()
	}
	m, ok := x.reply(corr)
	if !ok || m.E != api.OK {
		x.t.Fatalf("the partition %d, led by %d: %+v, %v", k, leader, m, ok)
	}
	for _, id := range append(isr, x.part(k).Isr...) {
		if !x.has(id, k, m.Offset, value) {
			x.t.Errorf("the node %d hasn't what was answered: partition %d, offset %d", id, k, m.Offset)
		}
	}
}

// TestTogether: nodes come together, lead, and lay.
func TestTogether(t *testing.T) {
	for nodes := 1; nodes <= 5; nodes++ {
		for copies := 1; copies <= nodes; copies++ {
			x := calm(t, api.Config{Nodes: nodes, Parts: 1 + nodes%4, Copies: copies})
			for k := range x.kept {
				if p := x.part(k); len(p.Isr) != copies {
					t.Errorf("the partition %d: %+v", k, p)
				}
				x.wantLaid(k)
			}
			for id := range x.nodes {
				wantStarts(t, x.nodes[id], 1)
			}
		}
	}
}

// TestAnswersWait: while one in sync hasn't it there is no answer, be it OK or a refusal that rests on it; then there is one.
func TestAnswersWait(t *testing.T) {
	x := calm(t, one(3, 1))
	leader := x.part(0).Leader
	x.cut[pair(leader, (leader+1)%3)] = true
	b := within(7, 2, 0, "a")
	want := map[int]api.Errno{
		x.ask(leader, api.Msg{Kind: api.MProduce, Batch: b}):                      api.OK,
		x.ask(leader, api.Msg{Kind: api.MProduce, Batch: b}):                      api.OK,
		x.ask(leader, api.Msg{Kind: api.MProduce, Batch: within(7, 2, 5, "a")}):   api.ErrSeq,
		x.ask(leader, api.Msg{Kind: api.MProduce, Batch: within(7, 1, 0, "a")}):   api.ErrFenced,
		x.ask(leader, api.Msg{Kind: api.MProduce, Batch: records("a", "b", "c")}): api.OK,
	}
	// A request that comes twice is answered once.
	x.nodes[leader].Handle(api.Msg{Kind: api.MProduce, From: 3, To: leader, Corr: x.asked - 1, Batch: within(7, 1, 0, "a")})
	if m, ok := x.reply(x.ask(leader, api.Msg{Kind: api.MProduce, Batch: marker(7, 1, true)})); !ok || m.E != api.ErrForm {
		t.Errorf("what rests on nothing: %+v, %v", m, ok)
	}
	if m, ok := x.reply(x.ask(leader, api.Msg{Kind: api.MRead})); !ok || m.High != 0 || len(m.Batches) > 0 {
		t.Errorf("MRead: %+v, %v", m, ok)
	}
	x.replies = nil
	for range 4 {
		x.calmRound()
		if len(x.replies) > 0 {
			t.Fatalf("answered too early: %+v", x.replies)
		}
	}
	clear(x.cut)
	for range 40 {
		x.calmRound()
	}
	if len(x.replies) != len(want) {
		t.Errorf("%d answers: %+v", len(x.replies), x.replies)
	}
	for _, m := range x.replies {
		if m.E != want[m.Corr] {
			t.Errorf("answered: %+v, want %d", m, want[m.Corr])
		}
	}
}

// TestCoordinatorsWait: what is decided but not committed isn't told, and no marker is sent of it.
func TestCoordinatorsWait(t *testing.T) {
	x := calm(t, one(3, 1))
	leader := x.part(1).Leader
	x.wantReply(x.ask(leader, api.Msg{Kind: api.MInit, Tx: 0, Inc: 1}), 40)
	x.wantReply(x.ask(leader, api.Msg{Kind: api.MAdd, Pid: 1, Offset: 0}), 40)
	x.ask(leader, api.Msg{Kind: api.MEnd, Pid: 1})
	for range 40 {
		x.calmRound()
	}
	x.wantReply(x.ask(leader, api.Msg{Kind: api.MAdd, Pid: 1, Epoch: 2, Offset: 0}), 40)
	x.cutOff(leader)
	busy := x.ask(leader, api.Msg{Kind: api.MEnd, Pid: 1, Epoch: 2})
	if m, _ := x.reply(busy); m.E != api.ErrBusy {
		t.Errorf("MEnd: %+v", m)
	}
	wrong := x.ask(leader, api.Msg{Kind: api.MEnd, Pid: 1, Epoch: 2, Commit: true})
	add := x.ask(leader, api.Msg{Kind: api.MInit, Tx: 1, Inc: 1})
	join := x.ask(leader, api.Msg{Kind: api.MJoin})
	for range 5 {
		x.calmRound()
	}
	for _, corr := range []int{wrong, add, join} {
		if m, ok := x.reply(corr); ok {
			t.Errorf("told: %+v", m)
		}
	}
	if log, _, _ := x.nodes[leader].Part(0); len(log) != 1 {
		t.Errorf("marked: %+v", log)
	}
	// Another one leads, for whom the transaction is open, and decides otherwise.
	x.nodes[leader] = nil
	x.settle(100)
	clear(x.cut)
	next := x.part(1).Leader
	if m := x.wantReply(x.ask(next, api.Msg{Kind: api.MEnd, Pid: 1, Epoch: 2, Commit: true}), 40); m.E != api.ErrBusy {
		t.Errorf("MEnd: %+v", m)
	}
	x.rise(leader)
	x.settle(200)
	for range 50 {
		x.calmRound()
	}
	end := x.wantReply(x.ask(x.part(1).Leader, api.Msg{Kind: api.MEnd, Pid: 1, Epoch: 2, Commit: true}), 40)
	if end.E != api.OK || end.Epoch != 4 {
		t.Errorf("MEnd: %+v", end)
	}
	for _, corr := range []int{wrong, add, join} {
		if m, ok := x.reply(corr); ok {
			t.Errorf("told: %+v", m)
		}
	}
}

// TestLeaderNoMore: what a leader has laid, and couldn't get committed, it never answers.
func TestLeaderNoMore(t *testing.T) {
	x := calm(t, one(3, 1))
	old := x.part(0).Leader
	x.cutOff(old)
	corr := x.ask(old, api.Msg{Kind: api.MProduce, Batch: records("lost")})
	for range 60 {
		x.calmRound()
	}
	other := x.nodes[(old+1)%3]
	p := partOf(t, other, 0)
	if p.Leader == old || slices.Contains(p.Isr, old) {
		t.Fatalf("the partition is led as before: %+v", p)
	}
	x.ask(p.Leader, api.Msg{Kind: api.MProduce, Batch: records("kept")})
	clear(x.cut)
	x.settle(100)
	for range 40 {
		x.calmRound()
	}
	if m, ok := x.reply(corr); ok {
		t.Errorf("answered: %+v", m)
	}
	for id := range x.nodes {
		if !x.has(id, 0, 0, "kept") || x.has(id, 0, 0, "lost") {
			t.Errorf("the node %d has another log", id)
		}
	}
	// It wasn't started anew, but has come once more.
	wantStarts(t, x.nodes[old], 2)
	if p := x.part(0); len(p.Isr) != 3 {
		t.Errorf("in sync: %+v", p)
	}
}

// TestOthersRefuse: who doesn't lead says so, whatever else is wrong but the partition's number.
func TestOthersRefuse(t *testing.T) {
	x := calm(t, one(3, 1))
	for kind := api.MProduce; kind <= api.MOffset; kind++ {
		if kind == api.MMarker {
			continue
		}
		for id := range x.nodes {
			if id == x.part(0).Leader {
				continue
			}
			m, ok := x.reply(x.ask(id, api.Msg{Kind: kind, Tx: 99, Group: 99, Batch: marker(1, 1, true)}))
			if !ok || m.E != api.ErrLeader {
				t.Errorf("kind %d: %+v, %v", kind, m, ok)
			}
			if m, ok = x.reply(x.ask(id, api.Msg{Kind: kind, Part: 3})); kind <= api.MRead && (!ok || m.E != api.ErrArg) {
				t.Errorf("kind %d: %+v, %v", kind, m, ok)
			}
		}
	}
}

// TestNotReady: a new coordinator is busy till all that its log had is committed; a partition without one isn't.
func TestNotReady(t *testing.T) {
	x := calm(t, one(3, 1))
	x.wantReply(x.ask(x.part(0).Leader, api.Msg{Kind: api.MProduce, Batch: records("a")}), 40)
	x.wantReply(x.ask(x.part(1).Leader, api.Msg{Kind: api.MInit, Tx: 0, Inc: 1}), 40)
	x.wantReply(x.ask(x.part(2).Leader, api.Msg{Kind: api.MJoin}), 40)
	// By a new start nobody knows any more how far all in sync have come.
	x.riseAll()
	busy := map[int]int{}
	laid := nobody
	for range 60 {
		x.calmRound()
		for id, n := range x.nodes {
			if n.leads(0) && !n.isReady(0) && laid == nobody {
				laid = x.ask(id, api.Msg{Kind: api.MProduce, Batch: records("b")})
				if m, ok := x.reply(x.ask(id, api.Msg{Kind: api.MRead})); !ok || m.E != api.OK || m.High != 0 {
					t.Errorf("MRead: %+v, %v", m, ok)
				}
			}
			for _, kind := range []int{api.MInit, api.MAdd, api.MEnd, api.MJoin, api.MOffset, api.MCommit, api.MTxCommit} {
				k, _ := n.partOf(api.Msg{Kind: kind})
				if _, _, leads := n.Part(k); !leads || n.parts[k].log.Ready() {
					continue
				}
				busy[kind]++
				// Ahead of a name or a group that there isn't.
				if m, ok := x.reply(x.ask(id, api.Msg{Kind: kind, Tx: 99, Group: 99})); !ok || m.E != api.ErrBusy {
					t.Errorf("kind %d: %+v, %v", kind, m, ok)
				}
			}
		}
	}
	if len(busy) != 7 {
		t.Errorf("busy: %v", busy)
	}
	if m, ok := x.reply(laid); !ok || m.E != api.OK || m.Offset != 1 {
		t.Errorf("MProduce: %+v, %v", m, ok)
	}
	if m := x.wantReply(x.ask(x.part(1).Leader, api.Msg{Kind: api.MInit, Tx: 0, Inc: 1}), 40); m.E != api.OK || m.Pid != 1 {
		t.Errorf("MInit: %+v", m)
	}
}

// TestFenced: who is down is fenced, others lead, and all goes on; it comes again, for one time more.
func TestFenced(t *testing.T) {
	for id := range 3 {
		x := calm(t, one(3, 2))
		x.nodes[id] = nil
		x.settle(60)
		for k := range x.kept {
			if p := x.part(k); p.Leader == id || slices.Contains(p.Isr, id) {
				t.Errorf("the partition %d: %+v", k, p)
			}
			x.wantLaid(k)
		}
		x.rise(id)
		x.settle(60)
		wantStarts(t, x.nodes[id], 2)
		for range 40 {
			x.calmRound()
		}
		for k := range x.kept {
			if p := x.part(k); len(p.Isr) != 3 {
				t.Errorf("in sync: %+v", p)
			}
			x.wantLaid(k)
		}
	}
}

// TestPatience: who is away for a short while isn't fenced; nor is anybody by a leader who hears nobody.
func TestPatience(t *testing.T) {
	for _, short := range []bool{true, false} {
		x := calm(t, one(3, 1))
		leader := x.quorumLeader()
		if short {
			// The others' clocks stand still, so that nobody asks for votes.
			for range 6 {
				x.tick(leader, 0)
				for range 2 {
					list := x.flight
					x.flight = nil
					for _, m := range list {
						if m.From != (leader+1)%3 {
							x.deliver(m)
						}
					}
				}
				x.flight = nil
			}
		} else {
			for range 30 {
				x.tick(leader, 0)
				x.flight = nil
			}
		}
		x.settle(100)
		for id := range x.nodes {
			wantStarts(t, x.nodes[id], 1)
		}
		if role, _, _, _, _ := x.nodes[leader].raft.State(); role != api.Leader {
			t.Error("another one leads the quorum")
		}
	}
}

// TestNewTerm: a leader of a new term has heard nobody yet, and laid nothing.
func TestNewTerm(t *testing.T) {
	x := calm(t, one(3, 1))
	n := x.nodes[x.quorumLeader()]
	n.desk = desk{term: n.desk.term - 1, silence: [api.MaxNodes]int{20, 20, 20}, proposed: []proposal{{index: 1 << 40}}}
	if !n.leadsQuorum() || n.desk.silence != [api.MaxNodes]int{} || len(n.desk.proposed) > 0 {
		t.Errorf("the desk is %+v", n.desk)
	}
}

// TestAskedTwice: a command that is under way isn't laid again.
func TestAskedTwice(t *testing.T) {
	x := calm(t, one(3, 1))
	before := len(x.entries)
	for range 5 {
		x.move(0, 0, 1, 2)
	}
	for range 20 {
		x.calmRound()
	}
	if len(x.entries) != before+1 {
		t.Errorf("%d entries behind %d", len(x.entries), before)
	}
}

// TestNotThere: a follower whom the quorum's leader doesn't hear may ask on and on; it keeps nobody else from being in sync.
func TestNotThere(t *testing.T) {
	x := calm(t, api.Config{Nodes: 5, Parts: 1, Copies: 3})
	q, k := x.quorumLeader(), 0
	for slices.Contains(x.part(k).Isr, q) {
		k++
	}
	p := x.part(k)
	followers := slices.DeleteFunc(p.Isr, func(id int) bool { return id == p.Leader })
	away, late := followers[0], followers[1]
	x.cut[pair(q, away)] = true
	x.nodes[late] = nil
	for range 40 {
		x.calmRound()
	}
	same(t, "in sync", partOf(t, x.nodes[q], k).Isr, []int{p.Leader})
	x.rise(late)
	for range 60 {
		x.calmRound()
	}
	want := []int{p.Leader, late}
	slices.Sort(want)
	same(t, "in sync", partOf(t, x.nodes[q], k).Isr, want)
}

// TestNoMajority: while half of the nodes are down nothing is applied.
func TestNoMajority(t *testing.T) {
	for nodes := 2; nodes <= 5; nodes++ {
		x := calm(t, one(nodes, 1))
		for id := range (nodes + 1) / 2 {
			x.nodes[id] = nil
		}
		last := len(x.entries)
		for range 300 {
			x.calmRound()
		}
		if len(x.entries) > last {
			t.Errorf("%d nodes: %d entries, and then %d", nodes, last, len(x.entries))
		}
		for id, n := range x.nodes {
			if n == nil {
				x.rise(id)
			}
		}
		x.settle(100)
		x.wantLaid(0)
	}
}

// TestMove: a partition comes to stand where it is asked to, with all that it had.
func TestMove(t *testing.T) {
	x := calm(t, api.Config{Nodes: 5, Parts: 2, Copies: 2})
	var values []string
	for i := range 30 {
		values = append(values, fmt.Sprint("v", i))
		m := x.wantReply(x.ask(x.part(1).Leader, api.Msg{Kind: api.MProduce, Part: 1, Batch: records(values[i])}), 40)
		if m.E != api.OK || m.Offset != i {
			t.Fatalf("MProduce: %+v", m)
		}
	}
	for _, list := range [][]int{{3, 4}, {0, 4}, {1, 2}, {1, 2}, {0, 3}} {
		x.move(1, list...)
		for range 60 {
			x.calmRound()
		}
		p := x.part(1)
		same(t, "Replicas", p.Replicas, list)
		same(t, "Isr", p.Isr, list)
		if len(p.Target) > 0 || !slices.Contains(list, p.Leader) || !x.settled() {
			t.Errorf("moved to %v: %+v", list, p)
		}
		log, high, _ := x.nodes[p.Leader].Part(1)
		same(t, "the log", committed(log), values)
		same(t, "the high watermark", high, 30)
	}
}

// TestLate: one that was down while much was laid takes all of it, and is in sync again.
func TestLate(t *testing.T) {
	x := calm(t, one(3, 1))
	x.nodes[2] = nil
	x.settle(60)
	for range 50 {
		x.ask(x.part(0).Leader, api.Msg{Kind: api.MProduce, Batch: records("v")})
	}
	x.rise(2)
	for range 100 {
		x.calmRound()
	}
	log, high, _ := x.nodes[2].Part(0)
	if len(log) != 50 || high != 50 || len(x.part(0).Isr) != 3 {
		t.Errorf("%d batches, up to %d; %+v", len(log), high, x.part(0))
	}
}

// TestSnapshot: a long log of the quorum's is shortened; who was away gets the snapshot, and what stands behind it.
func TestSnapshot(t *testing.T) {
	x := calm(t, one(3, 1))
	away := (x.quorumLeader() + 1) % 3
	x.nodes[away] = nil
	x.settle(60)
	both := slices.DeleteFunc([]int{0, 1, 2}, func(id int) bool { return id == away })
	for len(x.entries) < longLog+3*shortLog {
		for k := range x.kept {
			x.move(k, both...)
		}
		x.calmRound()
		for _, id := range both {
			if h := x.nodes[id].store.hard; h.Base > 0 && len(h.Log) < shortLog {
				t.Fatalf("the node %d has %d entries behind its snapshot", id, len(h.Log))
			}
		}
	}
	for id, n := range x.nodes {
		if n != nil && n.store.hard.Base == 0 {
			t.Errorf("the node %d has all of a log of %d entries", id, len(n.applied))
		}
		if n != nil && len(n.store.hard.Log) > longLog+2*shortLog {
			t.Errorf("the node %d has %d entries", id, len(n.store.hard.Log))
		}
	}
	x.rise(away)
	x.settle(100)
	n := x.nodes[away]
	if first := n.applied[0].Index; first == 1 || n.store.hard.Base != first-1 {
		t.Errorf("it has applied the entries from %d on, behind %d", first, n.store.hard.Base)
	}
	// Behind a new start the snapshot is what it knows.
	text := n.Image()
	x.riseAll()
	for id, n := range x.nodes {
		if got := imageOf(t, n); len(n.applied) > 0 || string(n.Image()) == "" {
			t.Errorf("the node %d: %+v", id, got)
		} else if _, _, count := got.Counts(); count < longLog-shortLog {
			t.Errorf("the node %d knows %d commands", id, count)
		}
	}
	x.settle(100)
	if string(x.nodes[away].Image()) == string(text) {
		t.Error("nobody has come again")
	}
	x.wantLaid(0)
}

// TestSnapshotAcrossStarts: the log is shortened though no start lasts for long.
func TestSnapshotAcrossStarts(t *testing.T) {
	d := disk.New()
	count := 0
	for count < longLog+2*shortLog {
		n := alone(t, one(1, 1), d)
		for range shortLog / 2 {
			n.Handle(api.Msg{Kind: api.MCmd, Cmd: api.Cmd{Kind: api.CMove, List: []int{0}}})
		}
		_, _, count = imageOf(t, n).Counts()
	}
	n := alone(t, one(1, 1), d)
	if h := n.store.hard; h.Base != longLog || len(n.Applied()) != len(h.Log) || n.Applied()[0].Index != longLog+1 {
		t.Errorf("behind %d there are %d entries", h.Base, len(h.Log))
	}
	if _, _, now := imageOf(t, n).Counts(); now <= count {
		t.Errorf("%d commands, and before %d", now, count)
	}
}

// TestTransactionAcross: partitions of several leaders are ended together.
func TestTransactionAcross(t *testing.T) {
	x := calm(t, api.Config{Nodes: 5, Parts: 4, Copies: 3})
	for i, commit := range []bool{true, false, true} {
		epoch := 2 * i
		tx := func(m api.Msg) api.Msg {
			m.Pid, m.Epoch = 1, epoch
			return x.wantReply(x.ask(x.part(4).Leader, m), 40)
		}
		if i == 0 {
			tx(api.Msg{Kind: api.MInit, Inc: 1})
		}
		leaders := map[int]bool{}
		for k := range 4 {
			leaders[x.part(k).Leader] = true
			tx(api.Msg{Kind: api.MAdd, Offset: k})
			x.wantReply(x.ask(x.part(k).Leader, api.Msg{Kind: api.MProduce, Part: k, Batch: within(1, epoch, 0, fmt.Sprint(i))}), 40)
		}
		if len(leaders) < 2 {
			t.Errorf("leaders: %v", leaders)
		}
		if m := tx(api.Msg{Kind: api.MEnd, Commit: commit}); m.E != api.ErrBusy {
			t.Errorf("MEnd: %+v", m)
		}
		for range 30 {
			x.calmRound()
		}
		if m := tx(api.Msg{Kind: api.MEnd, Commit: commit}); m.E != api.OK || m.Epoch != epoch+2 {
			t.Errorf("MEnd: %+v", m)
		}
	}
	for k := range 4 {
		log, high, _ := x.nodes[x.part(k).Leader].Part(k)
		same(t, "committed", committed(log), []string{"0", "2"})
		same(t, "the high watermark", high, 6)
		for i, b := range log {
			if b.Control != (i%2 == 1) || b.Control && (b.PEpoch != i || b.Commit != (i != 3)) || b.Base+batch.Size(b) != i+1 {
				t.Errorf("the partition %d: %+v", k, b)
			}
		}
	}
}

// TestLostMarkers: markers, and the answers to them, that are lost are sent again.
func TestLostMarkers(t *testing.T) {
	for _, kind := range []int{api.MMarker, api.MReply} {
		x := calm(t, api.Config{Nodes: 3, Parts: 2, Copies: 2})
		leader := x.part(2).Leader
		if leader == x.part(0).Leader {
			t.Fatalf("both are led by %d", leader)
		}
		x.wantReply(x.ask(leader, api.Msg{Kind: api.MInit, Inc: 1}), 40)
		x.wantReply(x.ask(leader, api.Msg{Kind: api.MAdd, Pid: 1, Offset: 0}), 40)
		x.ask(leader, api.Msg{Kind: api.MEnd, Pid: 1, Commit: true})
		lost := 0
		for range 60 {
			x.flight = slices.DeleteFunc(x.flight, func(m api.Msg) bool {
				if m.Kind != kind || lost == 2 {
					return false
				}
				lost++
				return true
			})
			x.calmRound()
		}
		m := x.wantReply(x.ask(leader, api.Msg{Kind: api.MEnd, Pid: 1, Commit: true}), 40)
		if lost != 2 || m.E != api.OK {
			t.Errorf("lost: %d; MEnd: %+v", lost, m)
		}
		log, _, _ := x.nodes[x.part(0).Leader].Part(0)
		same(t, "the log", log, []api.Batch{at(0, 1, marker(1, 1, true))})
		wantTxLog(t, x.nodes[leader], []api.TxRec{
			{Kind: api.TInit, Inc: 1, Pid: 1},
			{Kind: api.TAdd, Parts: []int{0}},
			{Kind: api.TPrep, Commit: true},
			{Kind: api.TDone},
		})
	}
}

// TestLateMarks: that a marker of an earlier transaction stands says nothing of the next one.
func TestLateMarks(t *testing.T) {
	x := calm(t, api.Config{Nodes: 3, Parts: 2, Copies: 2})
	leader := x.part(2).Leader
	var late []api.Msg
	x.wantReply(x.ask(leader, api.Msg{Kind: api.MInit, Inc: 1}), 40)
	for epoch := 0; epoch <= 2; epoch += 2 {
		x.wantReply(x.ask(leader, api.Msg{Kind: api.MAdd, Pid: 1, Epoch: epoch, Offset: 0}), 40)
		x.ask(leader, api.Msg{Kind: api.MEnd, Pid: 1, Epoch: epoch, Commit: true})
		for range 40 {
			x.calmRound()
			for _, m := range x.flight {
				if m.Kind == api.MReply && epoch == 0 {
					late = append(late, m)
				}
			}
			if epoch == 2 {
				x.flight = slices.DeleteFunc(x.flight, func(m api.Msg) bool { return m.Kind == api.MMarker })
				x.flight = append(x.flight, late...)
			}
		}
	}
	if state := x.nodes[leader].txns.laid.Tx(0).State; len(late) == 0 || state != api.TxPrepared {
		t.Errorf("behind %d late messages the state is %d", len(late), state)
	}
}

// TestMarkersCommitted: a transaction has ended when its markers are committed, and not ahead of that.
func TestMarkersCommitted(t *testing.T) {
	x := calm(t, api.Config{Nodes: 4, Parts: 2, Copies: 2})
	p, leader := x.part(0), x.part(2).Leader
	if slices.Contains(p.Isr, leader) {
		t.Fatalf("the coordinator is %d, in sync: %v", leader, p.Isr)
	}
	x.wantReply(x.ask(leader, api.Msg{Kind: api.MInit, Inc: 1}), 40)
	x.wantReply(x.ask(leader, api.Msg{Kind: api.MAdd, Pid: 1, Offset: 0}), 40)
	x.ask(leader, api.Msg{Kind: api.MEnd, Pid: 1, Commit: true})
	waited := 0
	for range 60 {
		log, high, _ := x.nodes[p.Leader].Part(0)
		if len(log) > 0 && high == 0 {
			x.cut[pair(p.Isr[0], p.Isr[1])] = waited < 4
			waited++
			if state := x.nodes[leader].txns.laid.Tx(0).State; state != api.TxPrepared {
				t.Errorf("the state is %d ahead of the marker's being committed", state)
			}
		}
		x.calmRound()
	}
	if state := x.nodes[leader].txns.laid.Tx(0).State; state != api.TxComplete || waited < 4 {
		t.Errorf("the state is %d, behind %d rounds", state, waited)
	}
}
