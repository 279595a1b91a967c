package node

import (
	"math"
	"slices"

	"penstock/api"
)

// tenure is what a leader knows of whether it leads still, in one epoch. It counts the questions that hang on that, and tells the count with what it answers its followers; they tell it back with what they ask next. Whoever may lead next is in sync by the leader's knowledge, or was asked for by it: as long as all of these follow it, nobody else has led.
type tenure struct {
	count int                // of a leader: how many questions; of a follower: what it was told last
	heard [api.MaxNodes]int  // the greatest count that each node has told back
	hoped [api.MaxNodes]bool // who was asked for, and may be in sync by now
}

// hope takes note of those that were asked for.
func (t *tenure) hope(list []int) {
	for _, id := range list {
		t.hoped[id] = true
	}
}

// hopesBeside tells whether anybody was asked for but these.
func (t *tenure) hopesBeside(list []int) bool {
	for id, hoped := range t.hoped {
		if hoped && !slices.Contains(list, id) {
			return true
		}
	}
	return false
}

// hear takes note of the count that a follower tells back.
func (t *tenure) hear(id, count int) {
	t.heard[id] = max(t.heard[id], min(count, t.count))
}

// learnsCount tells whether a leader's answer has a count that the follower hasn't told back yet.
func (p *part) learnsCount(m api.Msg) bool {
	epoch, leads := p.log.Role()
	if leads || m.Fetched.Epoch != epoch || m.Corr <= p.tenure.count {
		return false
	}
	p.tenure.count = m.Corr
	return true
}

// waitTillSure keeps an answer till it is known that the node leads now, too.
func (p *part) waitTillSure(m api.Msg) {
	p.tenure.count++
	p.keep(answer{at: p.end(), count: p.tenure.count, msg: m})
}

// surelyLed is the count up to which the node is known to have led a partition.
func (n *Node) surelyLed(k int) int {
	t := &n.parts[k].tenure
	x, _ := n.image.Part(k)
	least := math.MaxInt
	for id := range n.nodes {
		if id != n.id && (t.hoped[id] || slices.Contains(x.Isr, id)) {
			least = min(least, t.heard[id])
		}
	}
	return least
}
