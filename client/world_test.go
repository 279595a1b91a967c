package client

import (
	"slices"
	"testing"

	"penstock/api"
	"penstock/disk"
	"penstock/net"
	"penstock/node"
	"penstock/wire"
)

// world is nodes on their disks, clients, and the net between them, driven by the events of a script.
type world struct {
	t       *testing.T
	config  api.Config
	disks   []*disk.Disk
	nodes   []*node.Node // nil: it is down
	clients []*Client
	watches []*watch
	way     *net.Net
	asleep  []bool // the nodes, and behind them clients, whose clocks stand still; and those clients hear nothing
	round   int
	tally   map[string]int // how often something has happened
}

func newWorld(t *testing.T, c api.Config) *world {
	t.Helper()
	x := &world{t: t, config: c, way: net.New(), tally: map[string]int{}}
	for range c.Nodes {
		x.disks = append(x.disks, disk.New())
		x.nodes = append(x.nodes, nil)
	}
	x.asleep = make([]bool, c.Nodes+len(c.Clients))
	for id := range c.Nodes {
		x.open(id)
	}
	for number := range c.Clients {
		p := newClient(t, number, c)
		w := newWatch(t, p)
		w.tally = x.tally
		x.clients = append(x.clients, p)
		x.watches = append(x.watches, w)
	}
	return x
}

func newClient(t *testing.T, number int, c api.Config) *Client {
	t.Helper()
	p, e := New(number, c)
	if p == nil || e != api.OK {
		t.Fatalf("New(%d, %+v) = %v, %d", number, c, p, e)
	}
	return p
}

// open starts a node on its disk.
func (x *world) open(id int) {
	x.t.Helper()
	n, e := node.Open(id, x.config, x.disks[id])
	if e != api.OK {
		x.t.Fatalf("Open(%d) = %d", id, e)
	}
	x.nodes[id] = n
}

// send lets messages be in flight, as bytes.
func (x *world) send(list []api.Msg) {
	x.t.Helper()
	for _, m := range list {
		text, e := wire.Encode(m)
		if e != api.OK {
			x.t.Fatalf("Encode(%+v) = %d", m, e)
		}
		x.way.Send(api.Packet{From: m.From, To: m.To, Body: text})
	}
}

// did sends what a node has sent; one that has broken is down.
func (x *world) did(id int, list []api.Msg) {
	x.t.Helper()
	if x.nodes[id].Broken() {
		x.nodes[id] = nil
		x.tally["broken"]++
	}
	x.send(list)
}

// deliver hands a packet on.
func (x *world) deliver(i int) {
	x.t.Helper()
	p, ok := x.way.Take(i)
	if !ok {
		return
	}
	m, e := wire.Decode(p.Body)
	if e != api.OK {
		x.t.Fatalf("Decode(%d) = %d", p.Body, e)
	}
	if number := p.To - len(x.nodes); number >= 0 {
		if !x.asleep[p.To] {
			x.send(x.watches[number].handle(m))
		}
	} else if n := x.nodes[p.To]; n != nil {
		x.did(p.To, n.Handle(m))
	}
}

// tick lets the clock of a node, or a client, go on.
func (x *world) tick(i int, draw uint64) {
	x.t.Helper()
	if x.asleep[i] {
		return
	}
	if number := i - len(x.nodes); number >= 0 {
		x.send(x.watches[number].tick())
	} else if n := x.nodes[i]; n != nil {
		x.did(i, n.Tick(draw))
	}
}

// lose loses all that is under way between two.
func (x *world) lose(a, b int) {
	x.t.Helper()
	for i := x.way.Count() - 1; i >= 0; i-- {
		if p, _ := x.way.Peek(i); p.From == a && p.To == b || p.From == b && p.To == a {
			x.way.Drop(i)
		}
	}
}

// rise starts a node anew.
func (x *world) rise(id, left int) {
	x.t.Helper()
	x.disks[id].Crash(left)
	x.open(id)
}

// move asks all nodes to move a partition.
func (x *world) move(k, from int) {
	x.t.Helper()
	var there [api.MaxNodes]bool
	for i := range x.config.Copies {
		there[(from+i)%len(x.nodes)] = true
	}
	var list []int
	for id, is := range there {
		if is {
			list = append(list, id)
		}
	}
	for id, n := range x.nodes {
		if n != nil {
			x.did(id, n.Handle(api.Msg{Kind: api.MCmd, To: id, From: id, Cmd: api.Cmd{Kind: api.CMove, Part: k, List: list}}))
		}
	}
}

// do does an event of a script, of numbers that there are.
func (x *world) do(e api.Event) {
	x.t.Helper()
	switch e.Kind {
	case api.EDeliver:
		x.deliver(e.A)
	case api.EDrop:
		x.way.Drop(e.A)
	case api.ECopy:
		x.way.Copy(e.A)
	case api.ETick:
		x.tick(e.A, uint64(e.B))
	case api.ECut:
		x.way.Cut(e.A, e.B)
	case api.EHeal:
		x.way.Heal()
	case api.ECrash:
		if e.B < 0 {
			x.nodes[e.A] = nil
		} else if x.nodes[e.A] != nil {
			x.disks[e.A].Arm(e.B)
		}
	case api.ERise:
		x.rise(e.A, e.C)
	case api.EAgain:
		x.watches[e.A].again()
	case api.EMove:
		x.move(e.A, e.B)
	}
}

// calm lets everything go again, and starts all nodes anew.
func (x *world) calm() {
	x.t.Helper()
	x.way.Heal()
	for id := range x.nodes {
		x.rise(id, 0)
	}
}

// calmRound: all that is under way is delivered, and each clock goes on; but for those that stay down.
func (x *world) calmRound(down ...int) {
	x.t.Helper()
	for id, n := range x.nodes {
		if n == nil && !contains(down, id) {
			x.rise(id, 0)
		}
	}
	for range x.way.Count() {
		x.deliver(0)
	}
	for i := range len(x.nodes) + len(x.clients) {
		x.tick(i, uint64(i+7*x.round))
	}
	x.round++
}

// done tells whether all programs have ended.
func (x *world) done() bool {
	for _, c := range x.clients {
		if _, _, ended := c.State(); !ended {
			return false
		}
	}
	return true
}

// bound is within how many calm rounds all programs end: P10.
func (x *world) bound() int {
	count := 0
	for _, p := range x.config.Clients {
		count += len(p.Ops)
	}
	return 600 + 60*count
}

// finish lets calm rounds go by till all programs have ended.
func (x *world) finish(down ...int) {
	x.t.Helper()
	for rounds := 0; !x.done(); rounds++ {
		if rounds == x.bound() {
			for _, c := range x.clients {
				place, inc, ended := c.State()
				x.t.Logf("at %d, begun anew %d times, ended %v: %+v", place, inc, ended, c.under.msg)
			}
			x.t.Fatalf("not all programs have ended within %d rounds", rounds)
		}
		x.calmRound(down...)
	}
}

// patience is for how many rounds a transaction may be open at most, before it is aborted.
func (x *world) patience() int {
	longest := 0
	for _, p := range x.config.Clients {
		rounds := 0
		for _, o := range p.Ops {
			rounds += 10
			if o.Kind == api.OPoll {
				rounds += 90
			}
		}
		longest = max(longest, rounds)
	}
	return 150 + longest
}

// rest lets rounds go by in which what was left open is aborted.
func (x *world) rest(down ...int) {
	x.t.Helper()
	for range 100 {
		x.calmRound(down...)
	}
	for left := x.patience(); left > 0 && x.isOpen(); left-- {
		x.calmRound(down...)
	}
}

// isOpen tells whether a transaction is open in a data partition.
func (x *world) isOpen() bool {
	for k := range x.config.Parts {
		log := x.log(k)
		for i, b := range log {
			marked := func(m api.Batch) bool { return m.Control && m.Pid == b.Pid }
			if b.Txn && !b.Control && !slices.ContainsFunc(log[i:], marked) {
				return true
			}
		}
	}
	return false
}

// log is a partition's log, up to the greatest high watermark.
func (x *world) log(k int) []api.Batch {
	x.t.Helper()
	best, found := []api.Batch(nil), -1
	for _, n := range x.nodes {
		if n == nil {
			continue
		}
		if log, high, _ := n.Part(k); high > found {
			best, found = nil, high
			for _, b := range log {
				if b.Base < high {
					best = append(best, b)
				}
			}
		}
	}
	return best
}

func contains(list []int, n int) bool {
	for _, x := range list {
		if x == n {
			return true
		}
	}
	return false
}
