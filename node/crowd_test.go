package node

import (
	"bytes"
	"fmt"
	"math/rand"
	"slices"
	"testing"

	"penstock/api"
	"penstock/batch"
	"penstock/disk"
	"penstock/wire"
)

// crowd is nodes on their disks, clients, what is under way among them, and all that was ever seen of them.
type crowd struct {
	t       *testing.T
	draw    *rand.Rand
	seen    map[string]int
	config  api.Config
	disks   []*disk.Disk
	nodes   []*Node // nil: it is down
	patrons []*patron
	flight  []api.Msg
	replies []api.Msg       // to others than patrons
	cut     map[[2]int]bool // between which nothing goes
	round   int
	asked   int
	moves   bool // partitions are moved

	entries map[int]string    // of each index, what was applied there
	images  map[int]string    // of each index, what was made of all up to there
	kept    [][]api.Batch     // of each partition, what was below a high watermark
	marks   map[[2]int][3]int // of each node and partition, how far it was looked at
	deals   []*deal
}

func newCrowd(t *testing.T, c api.Config, draw *rand.Rand, seen map[string]int) *crowd {
	t.Helper()
	x := &crowd{t: t, draw: draw, config: c, seen: seen, cut: map[[2]int]bool{}}
	x.entries, x.images, x.marks = map[int]string{}, map[int]string{}, map[[2]int][3]int{}
	x.kept = make([][]api.Batch, c.Parts+2)
	for id := range c.Nodes {
		x.disks = append(x.disks, disk.New())
		x.nodes = append(x.nodes, openOn(t, id, c, x.disks[id]))
	}
	return x
}

// calm is a crowd that has come to rest.
func calm(t *testing.T, c api.Config) *crowd {
	t.Helper()
	x := newCrowd(t, c, rand.New(rand.NewSource(1)), map[string]int{})
	x.settle(100)
	return x
}

// settle lets rounds go by till the crowd has come to rest, and stays so.
func (x *crowd) settle(rounds int) {
	x.t.Helper()
	long := 0
	for range rounds {
		x.calmRound()
		if !x.settled() {
			long = 0
		} else if long++; long == 20 {
			return
		}
	}
	x.t.Fatalf("not settled within %d rounds", rounds)
}

// post takes what a node has sent, as bytes and back.
func (x *crowd) post(list []api.Msg) {
	x.t.Helper()
	for _, m := range list {
		text, e := wire.Encode(m)
		if e != api.OK {
			x.t.Fatalf("Encode(%+v) = %d", m, e)
		}
		m, _ := wire.Decode(text)
		if m.To >= len(x.nodes)+len(x.patrons) {
			x.replies = append(x.replies, m)
		} else {
			x.flight = append(x.flight, m)
		}
	}
}

// did looks at a node behind what it has done, and takes what it has sent.
func (x *crowd) did(id int, list []api.Msg) {
	x.t.Helper()
	if x.nodes[id].Broken() {
		x.seen["broken"]++
		if len(list) > 0 {
			x.t.Errorf("a broken node sends %+v", list)
		}
		x.nodes[id] = nil
		return
	}
	x.post(list)
	x.look(id)
}

// rise starts a node anew.
func (x *crowd) rise(id int) {
	x.t.Helper()
	x.disks[id].Crash(x.draw.Intn(200))
	x.nodes[id] = openOn(x.t, id, x.config, x.disks[id])
	x.look(id)
}

// riseAll starts all anew, and lets everything go between them.
func (x *crowd) riseAll() {
	x.t.Helper()
	clear(x.cut)
	for id := range x.nodes {
		x.rise(id)
	}
}

// look holds what a node shows against all that was seen.
func (x *crowd) look(id int) {
	x.t.Helper()
	n := x.nodes[id]
	list := n.applied
	// What was applied longer ago was looked at then.
	for _, c := range list[max(0, len(list)-70):] {
		x.hold("at the index", x.entries, c.Index, string(c.Data))
	}
	if len(list) > 0 {
		x.hold("the image behind the index", x.images, list[len(list)-1].Index, string(n.Image()))
	}
	for k, p := range n.parts {
		key, mark := [2]int{id, k}, [3]int{p.end(), p.high(), n.store.starts}
		if x.marks[key] != mark {
			x.marks[key] = mark
			x.lookAt(n, k)
		}
	}
}

// hold holds what is seen at a number against what was seen there before.
func (x *crowd) hold(what string, before map[int]string, number int, now string) {
	x.t.Helper()
	if was, ok := before[number]; ok && was != now {
		x.t.Errorf("%s %d: %v, and before %v", what, number, []byte(now), []byte(was))
	}
	before[number] = now
}

// lookAt holds a partition's log, up to the high watermark, against what was below one before.
func (x *crowd) lookAt(n *Node, k int) {
	x.t.Helper()
	log, high, _ := n.Part(k)
	i := 0
	for i < len(log) && log[i].Base+batch.Size(log[i]) <= high {
		i++
	}
	both := min(i, len(x.kept[k]))
	if !slices.EqualFunc(log[:both], x.kept[k][:both], alike) {
		x.t.Errorf("the partition %d on the node %d, up to %d: %+v\nbefore %+v", k, n.id, high, log[:both], x.kept[k][:both])
	}
	if i > both {
		x.seen["kept"] += i - both
		x.kept[k] = log[:i]
	}
}

func alike(a, b api.Batch) bool {
	return slices.EqualFunc(a.Values, b.Values, bytes.Equal) && fmt.Sprint(headOf(a)) == fmt.Sprint(headOf(b))
}

func headOf(b api.Batch) api.Batch {
	b.Values = nil
	return b
}

// deliver hands a message on.
func (x *crowd) deliver(m api.Msg) {
	x.t.Helper()
	if m.To >= len(x.nodes) {
		x.patrons[m.To-len(x.nodes)].take(m)
		return
	}
	if n := x.nodes[m.To]; n != nil && !x.cut[pair(m.From, m.To)] {
		x.did(m.To, n.Handle(m))
	}
}

func pair(a, b int) [2]int {
	return [2]int{min(a, b), max(a, b)}
}

// cutOff lets nothing go between a node and all others.
func (x *crowd) cutOff(id int) {
	for other := range x.nodes {
		if other != id {
			x.cut[pair(id, other)] = true
		}
	}
}

func (x *crowd) tick(id int, draw uint64) {
	x.t.Helper()
	if n := x.nodes[id]; n != nil {
		x.did(id, n.Tick(draw))
	}
}

// calmRound: all that is under way is delivered, and each clock goes on.
func (x *crowd) calmRound() {
	x.t.Helper()
	x.round++
	list := x.flight
	x.flight = nil
	for _, m := range list {
		x.deliver(m)
	}
	for id := range x.nodes {
		x.tick(id, uint64(id+7*x.round))
	}
	for _, p := range x.patrons {
		p.tick()
	}
}

// ask asks a node something, and tells by which number.
func (x *crowd) ask(to int, m api.Msg) int {
	x.t.Helper()
	x.asked++
	m.From, m.To, m.Corr = len(x.nodes)+len(x.patrons), to, x.asked
	if n := x.nodes[to]; n != nil {
		x.did(to, n.Handle(m))
	}
	return m.Corr
}

// reply is the answer to a request.
func (x *crowd) reply(corr int) (api.Msg, bool) {
	i := slices.IndexFunc(x.replies, func(m api.Msg) bool { return m.Corr == corr })
	if i < 0 {
		return api.Msg{}, false
	}
	return x.replies[i], true
}

// wantReply: a request is answered within so many rounds.
func (x *crowd) wantReply(corr, rounds int) api.Msg {
	x.t.Helper()
	for range rounds {
		if m, ok := x.reply(corr); ok {
			return m
		}
		x.calmRound()
	}
	m, ok := x.reply(corr)
	if !ok {
		x.t.Fatalf("no answer within %d rounds", rounds)
	}
	return m
}

// move asks all nodes to move a partition.
func (x *crowd) move(k int, list ...int) {
	x.t.Helper()
	for id, n := range x.nodes {
		if n != nil {
			x.did(id, n.Handle(api.Msg{Kind: api.MCmd, To: id, From: id, Cmd: api.Cmd{Kind: api.CMove, Part: k, List: list}}))
		}
	}
}

// quorumLeader is who leads the quorum, by its own knowledge.
func (x *crowd) quorumLeader() int {
	for id, n := range x.nodes {
		if n == nil {
			continue
		}
		if role, _, _, _, _ := n.raft.State(); role == api.Leader {
			return id
		}
	}
	return nobody
}

// part is what the first node that is up knows of a partition.
func (x *crowd) part(k int) api.Part {
	x.t.Helper()
	i := slices.IndexFunc(x.nodes, func(n *Node) bool { return n != nil })
	return partOf(x.t, x.nodes[i], k)
}

// settled tells whether all that are up have applied as much, and have one image, in which just they are there, and each partition has a leader, and just that one leads it.
func (x *crowd) settled() bool {
	x.t.Helper()
	var first *Node
	for id, n := range x.nodes {
		if n == nil {
			continue
		}
		if first == nil {
			first = n
		}
		if len(n.applied) == 0 || n.applied[len(n.applied)-1].Index != first.applied[len(first.applied)-1].Index || !bytes.Equal(n.Image(), first.Image()) {
			return false
		}
		for k := range x.kept {
			p := partOf(x.t, n, k)
			if _, _, leads := n.Part(k); p.Leader == nobody || leads != (p.Leader == id) {
				return false
			}
		}
	}
	m := imageOf(x.t, first)
	for id, n := range x.nodes {
		if there, _, _ := m.Node(id); there != (n != nil) {
			return false
		}
	}
	return true
}
