package replica

import (
	"bytes"
	"fmt"
	"math/rand"
	"slices"
	"testing"

	"penstock/api"
	"penstock/disk"
)

// P14.8.

// partition is one on several nodes: what the metadata say of it, what is in flight, and what may never be lost.
type partition struct {
	t       *testing.T
	draw    *rand.Rand
	count   map[string]int
	disks   []*disk.Disk
	nodes   []*Replica
	told    []told // of each node, what it was told last
	now     told
	leaders map[int]int // of each epoch
	asks    []api.FetchReq
	answers []reply
	wishes  []told
	sent    int
	kept    []api.Batch // what was below a leader's high watermark
	holds   []int       // of each node, up to where it must have that
}

// told is what the metadata say: in an epoch one leads, and these are in sync, by the so many-th list.
type told struct {
	epoch, version, leader int
	isr                    []int
}

type reply struct {
	to int
	a  api.FetchReply
}

func newPartition(t *testing.T, n int, draw *rand.Rand, count map[string]int) *partition {
	t.Helper()
	p := &partition{t: t, draw: draw, count: count, leaders: map[int]int{}, told: make([]told, n), holds: make([]int, n)}
	for id := range n {
		p.disks = append(p.disks, disk.New())
		p.nodes = append(p.nodes, openOn(t, p.disks[id], 0, id))
		p.now.isr = append(p.now.isr, id)
	}
	p.elect()
	return p
}

// elect lets one of those lead that are in sync.
func (p *partition) elect() {
	p.now.epoch++
	p.now.leader = p.now.isr[p.draw.Intn(len(p.now.isr))]
	p.leaders[p.now.epoch] = p.now.leader
}

// fence lets one be no more in sync, if another one is.
func (p *partition) fence() {
	if len(p.now.isr) < 2 {
		return
	}
	gone := p.now.isr[p.draw.Intn(len(p.now.isr))]
	p.now.isr = slices.DeleteFunc(slices.Clone(p.now.isr), func(n int) bool { return n == gone })
	p.now.version++
	if gone == p.now.leader {
		p.elect()
	}
}

// again opens a node anew, behind a break. It doesn't know any more whom it has asked for, so what it led is led anew.
func (p *partition) again(id int) {
	p.t.Helper()
	p.count["broken"]++
	p.disks[id].Crash(p.draw.Intn(100))
	p.nodes[id] = openOn(p.t, p.disks[id], 0, id)
	p.told[id] = told{}
	if id == p.now.leader {
		p.elect()
	}
}

// done looks at what a call of a node has answered: where its disk has broken it is opened anew.
func (p *partition) done(id int, e api.Errno) {
	p.t.Helper()
	if e == api.ErrDead {
		p.again(id)
	}
}

// tell tells a node what the metadata say now, if that is new: a list that it knows already answers none of its wishes.
func (p *partition) tell(id int) {
	if p.told[id].epoch == p.now.epoch && p.told[id].version == p.now.version {
		return
	}
	r := p.nodes[id]
	if p.now.leader != id {
		r.Follow(p.now.epoch)
	} else if epoch, _ := r.Role(); epoch == p.now.epoch {
		r.Sync(p.now.epoch, p.now.isr)
	} else {
		r.Lead(p.now.epoch, p.now.isr)
	}
	p.told[id] = p.now
}

// produce lets a node that leads, or believes so, lay a batch; sometimes one that was sent before.
func (p *partition) produce(id int) {
	p.t.Helper()
	p.sent++
	b := plain(fmt.Sprint("v", p.sent))
	if p.draw.Intn(3) == 0 {
		b.Values = append(b.Values, []byte("more"))
	}
	_, e := p.nodes[id].Produce(b)
	p.done(id, e)
}

// take takes one of a list, by chance, that stays in flight sometimes.
func take[T any](draw *rand.Rand, list *[]T) (T, bool) {
	var none T
	if len(*list) == 0 {
		return none, false
	}
	i := draw.Intn(len(*list))
	x := (*list)[i]
	if draw.Intn(5) > 0 {
		*list = slices.Delete(*list, i, i+1)
	}
	return x, draw.Intn(8) > 0
}

func (p *partition) ask(id int) {
	if q, ok := p.nodes[id].Need(); ok {
		p.asks = append(p.asks, q)
	}
}

func (p *partition) answer() {
	q, ok := take(p.draw, &p.asks)
	if !ok {
		return
	}
	a := p.nodes[p.leaders[q.Epoch]].Fetch(q)
	p.answers = append(p.answers, reply{q.Node, a})
}

func (p *partition) accept() {
	p.t.Helper()
	x, ok := take(p.draw, &p.answers)
	if !ok {
		return
	}
	_, before, _, _ := p.nodes[x.to].Marks()
	e := p.nodes[x.to].Accept(x.a)
	if _, end, _, _ := p.nodes[x.to].Marks(); end < before {
		p.count["cut"]++
	} else if x.a.Diverges && e == api.ErrOffset {
		p.count["late"]++
	}
	p.done(x.to, e)
}

// wish lets a node that leads ask for another list, by what it was told.
func (p *partition) wish(id int) {
	list, ok := p.nodes[id].Want([]int{0, 1, 2, 3, 4})
	if !ok {
		return
	}
	p.nodes[id].Asked(list)
	p.wishes = append(p.wishes, told{p.told[id].epoch, p.told[id].version, id, list})
}

// grant fulfils a wish, if nothing has changed since.
func (p *partition) grant() {
	p.wishes = slices.DeleteFunc(p.wishes, func(w told) bool { return w.epoch != p.now.epoch || w.version != p.now.version })
	w, ok := take(p.draw, &p.wishes)
	if !ok {
		return
	}
	p.count["granted"]++
	p.now.isr = w.isr
	p.now.version++
}

// look notes what is below the high watermarks of those that lead, and holds all logs against that.
func (p *partition) look() {
	p.t.Helper()
	for id, r := range p.nodes {
		_, leads := r.Role()
		_, _, high, _ := r.Marks()
		if !leads {
			continue
		}
		p.keep(r, high)
		for _, n := range p.told[id].isr {
			p.holds[n] = max(p.holds[n], high)
		}
	}
	for id, r := range p.nodes {
		p.wantBeginning(id, r.Log(), p.holds[id])
	}
}

// keep holds a leader's log up to its high watermark against what is kept, or takes it there.
func (p *partition) keep(r *Replica, high int) {
	p.t.Helper()
	log := r.Log()
	n := 0
	for n < len(log) && endOf(log[n]) <= high {
		n++
	}
	both := min(n, len(p.kept))
	p.wantAlike("what is below a high watermark", log[:both], p.kept[:both])
	if n > len(p.kept) {
		p.count["kept"] += n - len(p.kept)
		p.kept = log[:n]
	}
}

// wantBeginning: a log has what is kept up to an offset.
func (p *partition) wantBeginning(id int, log []api.Batch, to int) {
	p.t.Helper()
	n := 0
	for n < len(p.kept) && endOf(p.kept[n]) <= to {
		n++
	}
	p.wantAlike(fmt.Sprintf("what the node %d must have", id), log[:min(n, len(log))], p.kept[:n])
}

// wantAlike is same, but for its speed.
func (p *partition) wantAlike(what string, got, want []api.Batch) {
	p.t.Helper()
	alike := func(a, b api.Batch) bool {
		return a.Base == b.Base && a.Epoch == b.Epoch && slices.EqualFunc(a.Values, b.Values, bytes.Equal)
	}
	if !slices.EqualFunc(got, want, alike) {
		same(p.t, what, got, want)
	}
}

func (p *partition) step() {
	p.t.Helper()
	id := p.draw.Intn(len(p.nodes))
	switch x := p.draw.Intn(300); {
	case x < 30:
		p.produce(id)
	case x < 90:
		p.ask(id)
	case x < 140:
		p.answer()
	case x < 190:
		p.accept()
	case x < 220:
		p.tell(id)
	case x < 240:
		p.nodes[id].Tick()
	case x < 265:
		p.wish(id)
	case x < 290:
		p.grant()
	case x < 292:
		p.elect()
	case x < 295:
		p.fence()
	case x < 299:
		p.disks[id].Arm(p.draw.Intn(200))
	default:
		p.again(id)
	}
}

// calm lets all be told, ask and be answered, until nothing more can change.
func (p *partition) calm() {
	p.t.Helper()
	for id := range p.nodes {
		p.again(id)
	}
	p.asks, p.answers, p.wishes = nil, nil, nil
	for range 60 + p.sent/4 {
		for id, r := range p.nodes {
			p.tell(id)
			if q, ok := r.Need(); ok {
				r.Accept(p.nodes[p.now.leader].Fetch(q))
			}
			r.Tick()
		}
		if list, ok := p.nodes[p.now.leader].Want(everybody()[:len(p.nodes)]); ok {
			p.now.isr = list
			p.now.version++
		}
		p.look()
	}
}

// wantOne: all have one log, and all of it is below the high watermark.
func (p *partition) wantOne() {
	p.t.Helper()
	log := p.nodes[p.now.leader].Log()
	for id, r := range p.nodes {
		same(p.t, fmt.Sprintf("the log of the node %d", id), r.Log(), log)
		_, end, high, _ := r.Marks()
		same(p.t, fmt.Sprintf("the high watermark of the node %d", id), high, end)
	}
	same(p.t, "how many are in sync", len(p.now.isr), len(p.nodes))
}

// TestKept: whatever is delivered, lost, doubled and late, and whoever breaks.
func TestKept(t *testing.T) {
	t.Parallel()
	count := map[string]int{}
	for seed := range int64(150) {
		draw := rand.New(rand.NewSource(seed))
		p := newPartition(t, 2+int(seed%4), draw, count)
		for i := range 900 {
			p.step()
			p.look()
			if t.Failed() {
				t.Fatalf("seed %d, step %d", seed, i)
			}
		}
		p.calm()
		p.wantOne()
		if t.Failed() {
			t.Fatalf("seed %d, calm rounds", seed)
		}
	}
	for _, what := range []string{"kept", "cut", "late", "granted", "broken"} {
		if count[what] < 100 {
			t.Errorf("%s: %d times", what, count[what])
		}
	}
}
