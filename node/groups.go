package node

import (
	"penstock/api"
	"penstock/group"
)

const awayTicks = 60 // for which a member of a group may ask nothing

// groups is what the leader of the groups' partition knows.
type groups struct {
	state *group.State   // by all that stands in the log
	ages  map[[2]int]int // by the group and the member: ticks since it asked
}

// newGroups knows nothing; it is to begin.
func newGroups() groups {
	return groups{ages: map[[2]int]int{}}
}

// begin learns what a log says.
func (g *groups) begin(log []api.Batch) {
	g.clear()
	g.state = group.New()
	for _, b := range log {
		g.note(b)
	}
}

// clear forgets all that a leader knew.
func (g *groups) clear() {
	g.state = nil
	clear(g.ages)
}

// note takes note of a batch that stands in the log.
func (g *groups) note(b api.Batch) {
	g.state.Apply(b)
}

// takeOfGroup does what a member of a group asks.
func (n *Node) takeOfGroup(m api.Msg) {
	delete(n.groups.ages, [2]int{m.Group, m.Member})
	switch m.Kind {
	case api.MJoin:
		n.join(m)
	case api.MOffset:
		n.offset(m)
	default:
		n.commit(m)
	}
}

func (n *Node) join(m api.Msg) {
	k := n.grPart()
	r, lays, e := n.groups.state.Join(m.Group, m.Member, true)
	if lays {
		e = n.layGroup(r, api.Batch{})
	}
	if e != api.OK {
		n.refuse(k, m, e)
		return
	}
	gen, members := n.groups.state.Team(m.Group)
	n.answer(k, m, api.Msg{Gen: gen, Members: members})
}

// offset tells how far a group has come. Nothing is laid for that, so that a coordinator that has been replaced, and doesn't know it, would tell what was so long ago; and what was copied since would be copied again from there.
func (n *Node) offset(m api.Msg) {
	k := n.grPart()
	at, e := n.groups.state.Offset(m.Group, m.Part)
	if e != api.OK {
		n.refuse(k, m, e)
		return
	}
	n.parts[k].waitTillSure(toldTo(m, api.Msg{Offset: at}))
}

// commit takes note of how far a group has come: at once, or when the producer's transaction commits.
func (n *Node) commit(m api.Msg) {
	r, e := n.groups.state.Commit(m.Group, m.Member, m.Gen, m.Part, m.Offset)
	if e == api.OK {
		e = n.layGroup(r, batchOf(m))
	}
	n.refuse(n.grPart(), m, e)
}

// batchOf is the batch in which a member's record stands, as yet without it.
func batchOf(m api.Msg) api.Batch {
	if m.Kind != api.MTxCommit {
		return api.Batch{}
	}
	return api.Batch{Pid: m.Pid, PEpoch: m.Epoch, Seq: m.Batch.Seq, Txn: true}
}

// layGroup lays a record in the groups' log.
func (n *Node) layGroup(r api.GrRec, b api.Batch) api.Errno {
	text, e := group.Encode(r)
	if e != api.OK {
		return e
	}
	b.Values = [][]byte{text}
	_, e = n.lay(n.grPart(), b)
	return e
}

// tickGroups lets members go that have asked nothing for long.
func (n *Node) tickGroups() {
	g := &n.groups
	if !n.isReady(n.grPart()) {
		return
	}
	for _, name := range g.state.Groups() {
		_, members := g.state.Team(name)
		for _, member := range members {
			key := [2]int{name, member}
			g.ages[key]++
			if g.ages[key] <= awayTicks {
				continue
			}
			if r, lays, _ := g.state.Join(name, member, false); lays {
				n.layGroup(r, api.Batch{})
			}
			delete(g.ages, key)
		}
	}
}
