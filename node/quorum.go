package node

import (
	"bytes"
	"slices"

	"penstock/api"
	"penstock/image"
)

const (
	unheard  = 10   // ticks for which the quorum's leader waits for a node, ahead of having it fenced
	again    = 3    // ticks behind which a command is asked for again
	longLog  = 2048 // entries from which on a snapshot takes the place of the older ones
	shortLog = 64   // entries that stay then at least: who gets the snapshot has something to apply, too
)

// desk is what a node knows as the quorum's leader, in one term.
type desk struct {
	term     int
	silence  [api.MaxNodes]int // ticks since a node was heard
	proposed []proposal
}

// proposal is a command that isn't applied yet.
type proposal struct {
	index int
	text  []byte
}

// snapshot is an image, and the index of the last entry that made it.
type snapshot struct {
	index int
	text  []byte
}

// wish is a command that was asked for last, and when.
type wish struct {
	text  string
	clock int
}

// pump does what the quorum's part of the node wants done: it is kept ahead of all else, and sent behind all else.
func (n *Node) pump() {
	ready := n.raft.Take()
	if ready.Save {
		if e := n.store.save(ready.Hard); e != api.OK {
			// What isn't kept may not be told, so it can't go on, whatever the error.
			n.broken = true
			return
		}
	}
	if ready.Restore {
		n.restore(ready.Snap)
	}
	for _, c := range ready.Commits {
		n.apply(c)
		n.shorten(c.Index)
	}
	for _, m := range ready.Msgs {
		n.send(api.Msg{Kind: api.MRaft, To: m.To, Raft: m})
	}
	if ready.Restore || len(ready.Commits) > 0 {
		n.come()
		n.assign()
	}
}

// restore takes up a snapshot.
func (n *Node) restore(snap []byte) {
	if m, e := image.Read(snap); e == api.OK {
		n.image = m
	}
}

// apply does an entry that is committed. One that is no command, as a new leader's first one, changes nothing; so it is everywhere.
func (n *Node) apply(c api.Commit) {
	n.applied = append(n.applied, c)
	n.desk.proposed = slices.DeleteFunc(n.desk.proposed, func(p proposal) bool { return p.index <= c.Index })
	if cmd, e := image.Decode(c.Data); e == api.OK {
		n.image.Apply(cmd)
	}
}

// shorten lets a snapshot stand for the log's older entries, if that is long by the time that one is applied. It is taken ahead of its use, so that some entries stay behind it. That it is used may be kept later: till then the entries are.
func (n *Node) shorten(index int) {
	base := n.store.hard.Base
	switch {
	case index-base < longLog:
	case n.taken.index <= base:
		text, _ := n.image.Bytes()
		n.taken = snapshot{index, text}
	case index-n.taken.index == shortLog:
		n.raft.Compact(n.taken.index, n.taken.text)
	}
}

// takeRaft takes a message of the quorum's.
func (n *Node) takeRaft(m api.Msg) {
	from := m.Raft.From
	if from < 0 || from >= n.nodes || !n.fits(m.Raft) {
		return
	}
	n.desk.silence[from] = 0
	n.raft.Step(m.Raft)
}

// fits tells whether a message has entries and a snapshot as nodes of this cluster make them. Others couldn't be kept.
func (n *Node) fits(m api.RMsg) bool {
	strange := func(x api.Entry) bool {
		_, e := image.Decode(x.Data)
		return e != api.OK && len(x.Data) > 0
	}
	if slices.ContainsFunc(m.Entries, strange) {
		return false
	}
	if m.Kind != api.RSnap {
		return true
	}
	snap, e := image.Read(m.Snap)
	nodes, parts, _ := snap.Counts()
	return e == api.OK && nodes == n.nodes && parts == len(n.parts)
}

// leadsQuorum tells whether the node leads the quorum; a new term begins with a new desk.
func (n *Node) leadsQuorum() bool {
	role, term, _, _, _ := n.raft.State()
	if role != api.Leader {
		return false
	}
	if n.desk.term != term {
		n.desk.term, n.desk.silence, n.desk.proposed = term, [api.MaxNodes]int{}, nil
	}
	return true
}

// watch has nodes fenced that the quorum's leader hasn't heard for a while. If that is half of them, it is the leader who is cut off.
func (n *Node) watch() {
	if !n.leadsQuorum() {
		return
	}
	var silent []int
	for i := range n.nodes {
		if i == n.id {
			continue
		}
		n.desk.silence[i]++
		if n.desk.silence[i] > unheard {
			silent = append(silent, i)
		}
	}
	if 2*len(silent) >= n.nodes {
		return
	}
	for _, i := range silent {
		n.propose(api.Cmd{Kind: api.CFence, Node: i})
	}
}

// propose lays a command, if the node leads the quorum. What is under way, or would be refused, isn't laid: it is asked for again and again.
func (n *Node) propose(c api.Cmd) {
	if !n.leadsQuorum() || n.refused(c) {
		return
	}
	text, e := image.Encode(c)
	same := func(p proposal) bool { return bytes.Equal(p.text, text) }
	if e != api.OK || slices.ContainsFunc(n.desk.proposed, same) {
		return
	}
	if index, e := n.raft.Propose(text); e == api.OK {
		n.desk.proposed = append(n.desk.proposed, proposal{index, text})
	}
}

// refused tells whether a command would be refused by the image as it is, or is of no use any more.
func (n *Node) refused(c api.Cmd) bool {
	if _, _, block := n.image.Node(c.Node); c.Kind == api.CBlock && c.Version != int(block) {
		return true
	}
	text, _ := n.image.Bytes()
	trial, e := image.Read(text)
	return e != api.OK || trial.Apply(c) != api.OK
}

// wish asks for what the node lacks: to be there, and numbers of producers.
func (n *Node) wish() {
	if !n.active {
		n.ask(api.Cmd{Kind: api.CJoin, Node: n.id, Epoch: n.store.starts})
		return
	}
	if _, left := n.image.Pids(); n.leads(n.txPart()) && n.freePid() == 0 && left >= api.BlockSize {
		_, _, block := n.image.Node(n.id)
		// The Version names the block that is used up, so that who asks twice isn't given two.
		n.ask(api.Cmd{Kind: api.CBlock, Node: n.id, Version: int(block)})
	}
}

// ask sends a command to the quorum's leader, but not the same one again at once.
func (n *Node) ask(c api.Cmd) {
	_, _, leader, _, _ := n.raft.State()
	text, e := image.Encode(c)
	if leader == nobody || e != api.OK {
		return
	}
	key := [2]int{c.Kind, c.Part}
	last, asked := n.wishes[key]
	if asked && last.text == string(text) && n.clock-last.clock < again {
		return
	}
	n.wishes[key] = wish{string(text), n.clock}
	n.send(api.Msg{Kind: api.MCmd, To: leader, Cmd: c})
}

// come looks whether the node is there, by its last start; who was, and is no more, comes again as if it had been started once more.
func (n *Node) come() {
	there, time, _ := n.image.Node(n.id)
	n.active = there && time == n.store.starts
	n.came = n.came || n.active
	if n.active || time < n.store.starts {
		return
	}
	if e := n.store.start(time + 1); e != api.OK {
		n.broken = true
	}
}
