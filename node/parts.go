package node

import (
	"slices"

	"penstock/api"
	"penstock/replica"
)

// part is a partition on the node.
type part struct {
	log     *replica.Replica
	version int      // which list of those in sync a leader goes by
	waiting []answer // of a leader
	tenure  tenure
	pace    pace
}

// answer is what is to be sent when the high watermark has come to an offset, and the node is known to have led when it had counted so many questions.
type answer struct {
	at, count int
	msg       api.Msg
}

// gist is what answers to one sender differ by.
type gist struct {
	to, corr, inc, tx, part, offset, epoch int
	pid                                    uint64
	e                                      api.Errno
}

func gistOf(m api.Msg) gist {
	return gist{m.To, m.Corr, m.Inc, m.Tx, m.Part, m.Offset, m.Epoch, m.Pid, m.E}
}

func (p *part) leads() bool {
	_, leads := p.log.Role()
	return leads
}

func (p *part) end() int {
	_, end, _, _ := p.log.Marks()
	return end
}

func (p *part) high() int {
	_, _, high, _ := p.log.Marks()
	return high
}

// wait keeps an answer till all that stands in the log now is committed.
func (p *part) wait(m api.Msg) {
	p.keep(answer{at: p.end(), msg: m})
}

// keep keeps an answer till it may be sent. The same one isn't kept twice: who asks again while nothing goes on is answered once.
func (p *part) keep(x answer) {
	same := func(a answer) bool { return gistOf(a.msg) == gistOf(x.msg) }
	if !slices.ContainsFunc(p.waiting, same) {
		p.waiting = append(p.waiting, x)
	}
}

// release sends the answers for which all is committed that they rest on.
func (n *Node) release() {
	for k, p := range n.parts {
		if len(p.waiting) == 0 {
			continue
		}
		high, count := p.high(), n.surelyLed(k)
		p.waiting = slices.DeleteFunc(p.waiting, func(a answer) bool {
			if a.at > high || a.count > count {
				return false
			}
			n.send(a.msg)
			return true
		})
	}
}

// leads tells whether the node leads a partition.
func (n *Node) leads(k int) bool {
	return n.parts[k].leads()
}

// isReady tells whether the node leads a partition, and all that it found there is committed.
func (n *Node) isReady(k int) bool {
	return n.parts[k].log.Ready()
}

// assign lets the node lead and follow as the image says. Until it has come it knows older images than those that its logs are of: who followed by these could lose what is committed.
func (n *Node) assign() {
	if !n.came {
		return
	}
	for k, p := range n.parts {
		x, _ := n.image.Part(k)
		epoch, leads := p.log.Role()
		switch {
		case x.Epoch > epoch && x.Leader == n.id:
			n.lead(k, x)
		case x.Epoch > epoch:
			n.follow(k, x.Epoch)
		case leads && x.Version != p.version:
			// Only a new list tells what has become of those that were asked for.
			p.log.Sync(x.Epoch, x.Isr)
			p.version = x.Version
			p.tenure.hoped = [api.MaxNodes]bool{}
		}
	}
}

// lead lets the node lead a partition in a new epoch.
func (n *Node) lead(k int, x api.Part) {
	p := n.parts[k]
	p.log.Lead(x.Epoch, x.Isr)
	p.version, p.waiting, p.tenure, p.pace = x.Version, nil, tenure{}, newPace(p.end())
	switch k {
	case n.txPart():
		n.txns.begin(p.log.Log())
	case n.grPart():
		n.groups.begin(p.log.Log())
	}
}

// follow lets the node lead a partition no more; nobody is told any more what it had to tell.
func (n *Node) follow(k, epoch int) {
	p := n.parts[k]
	p.log.Follow(epoch)
	p.waiting, p.tenure = nil, tenure{}
	switch k {
	case n.txPart():
		n.txns.clear()
	case n.grPart():
		n.groups.clear()
	}
}

// lay lays a batch in a partition's log, and lets its coordinator, if it has one, take note of it.
func (n *Node) lay(k int, b api.Batch) (int, api.Errno) {
	p := n.parts[k]
	end := p.end()
	base, e := p.log.Produce(b)
	if p.end() == end {
		return base, e
	}
	b.Base = base
	switch k {
	case n.txPart():
		n.txns.note(b)
	case n.grPart():
		n.groups.note(b)
	}
	return base, e
}

// tickParts lets leaders look who keeps up, and followers ask.
func (n *Node) tickParts() {
	for k, p := range n.parts {
		p.log.Tick()
		p.pace.tick(p.end())
		if n.active {
			n.askForSync(k)
			n.fetch(k)
		}
	}
}

// askForSync asks that those be in sync that should be.
func (n *Node) askForSync(k int) {
	p := n.parts[k]
	if !p.leads() {
		return
	}
	x, _ := n.image.Part(k)
	c := p.crewOf(n.mayBeInSync(x), x.Isr)
	if len(c.near) > 0 {
		// What is committed waits for them, so that they come to it, however fast the log grows.
		p.askedFor(c.near)
	}
	if slices.Equal(c.list, x.Isr) && !p.tenure.hopesBeside(slices.Concat(c.list, c.near)) {
		return
	}
	// Ahead of the asking: they may be in sync by the time that anybody hears of it.
	p.askedFor(c.list)
	n.ask(api.Cmd{Kind: api.CIsr, Node: n.id, Part: k, Epoch: x.Epoch, Version: x.Version, List: c.list})
}

// mayBeInSync are the nodes that may be asked for. Who isn't there would be refused.
func (n *Node) mayBeInSync(x api.Part) []int {
	return slices.DeleteFunc(slices.Concat(x.Replicas, x.Target), func(i int) bool {
		there, _, _ := n.image.Node(i)
		return !there && !slices.Contains(x.Isr, i)
	})
}

// askedFor lets what is committed wait for these, too.
func (p *part) askedFor(list []int) {
	p.log.Asked(list)
	p.tenure.hope(list)
}

// fetch asks a partition's leader for what comes next, if the partition stands here, or shall.
func (n *Node) fetch(k int) {
	q, follows := n.parts[k].log.Need()
	x, _ := n.image.Part(k)
	stands := slices.Contains(x.Replicas, n.id) || slices.Contains(x.Target, n.id)
	if follows && stands && x.Leader != nobody {
		n.send(api.Msg{Kind: api.MFetch, To: x.Leader, Corr: n.parts[k].tenure.count, Fetch: q})
	}
}

// takeFetch answers a follower. Who asks wrongly will hear from the quorum why.
func (n *Node) takeFetch(m api.Msg) {
	q := m.Fetch
	if !n.isPart(q.Part) {
		return
	}
	p := n.parts[q.Part]
	if a := p.log.Fetch(q); a.E == api.OK {
		p.tenure.hear(q.Node, m.Corr)
		if !a.Diverges {
			p.pace.hear(q.Node, q.Offset)
		}
		n.send(api.Msg{Kind: api.MFetched, To: m.From, Corr: p.tenure.count, Fetched: a})
	}
}

// takeFetched takes a leader's answer; if there was something in it, there may be more, and if the leader wants to know whether it leads still, it is told so.
func (n *Node) takeFetched(m api.Msg) {
	k := m.Fetched.Part
	if !n.isPart(k) {
		return
	}
	p := n.parts[k]
	end := p.end()
	asked := p.learnsCount(m)
	p.log.Accept(m.Fetched)
	if n.active && (asked || p.end() != end) {
		n.fetch(k)
	}
}
