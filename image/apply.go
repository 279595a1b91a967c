package image

import (
	"slices"

	"penstock/api"
)

// Apply does a command; a command that doesn't fit changes nothing but the count.
func (m *Image) Apply(c api.Cmd) api.Errno {
	if m == nil {
		return api.ErrState
	}
	m.count++
	if !m.fits(c) {
		return api.ErrArg
	}
	switch c.Kind {
	case api.CJoin:
		return m.join(c.Node, c.Epoch)
	case api.CFence:
		return m.fence(c.Node)
	case api.CIsr:
		return m.setIsr(c)
	case api.CMove:
		return m.move(&m.parts[c.Part], c.List)
	default:
		return m.giveBlock(c.Node)
	}
}

// fits tells whether there is all that a command of its kind names. What its kind doesn't name isn't looked at.
func (m *Image) fits(c api.Cmd) bool {
	switch {
	case !isCmd(c):
		return false
	case c.Kind == api.CMove:
		return m.isPart(c.Part) && m.isList(c.List)
	case c.Kind == api.CIsr:
		return m.isNode(c.Node) && m.isPart(c.Part) && m.isList(c.List)
	default:
		return m.isNode(c.Node)
	}
}

// join lets a node be there. It may not know any more what it led, so that is led anew.
func (m *Image) join(n, time int) api.Errno {
	if time <= m.nodes[n].time {
		return api.ErrState
	}
	m.nodes[n].there, m.nodes[n].time = true, time
	for k := range m.parts {
		p := &m.parts[k]
		if p.Leader == n || p.Leader == nobody && slices.Contains(p.Isr, n) {
			m.elect(p)
		}
	}
	return api.OK
}

// fence lets a node be gone. Where nobody else is left that has all that is committed, it stays in sync.
func (m *Image) fence(n int) api.Errno {
	if !m.nodes[n].there {
		return api.ErrNone
	}
	m.nodes[n].there = false
	for k := range m.parts {
		p := &m.parts[k]
		if !slices.Contains(p.Isr, n) {
			continue
		}
		// It isn't there any more, so whoever is found is another one.
		if slices.ContainsFunc(p.Isr, m.isThere) {
			p.Isr = slices.DeleteFunc(p.Isr, func(x int) bool { return x == n })
			p.Version++
		}
		if p.Leader == n {
			m.elect(p)
		}
	}
	return api.OK
}

// setIsr lets those be in sync that a partition's leader asks for.
func (m *Image) setIsr(c api.Cmd) api.Errno {
	p := &m.parts[c.Part]
	if p.Leader != c.Node || p.Epoch != c.Epoch || p.Version != c.Version {
		return api.ErrLeader
	}
	barred := func(n int) bool { return !m.maySync(p, n) }
	if !slices.Contains(c.List, c.Node) || slices.ContainsFunc(c.List, barred) {
		return api.ErrState
	}
	p.Isr = slices.Clone(c.List)
	p.Version++
	m.endMove(p)
	return api.OK
}

// maySync tells whether a node may be in sync by what is known of it.
func (m *Image) maySync(p *api.Part, n int) bool {
	stands := slices.Contains(p.Replicas, n) || slices.Contains(p.Target, n)
	return stands && (m.isThere(n) || slices.Contains(p.Isr, n))
}

// move lets a partition stand on other nodes, as soon as these are in sync.
func (m *Image) move(p *api.Part, target []int) api.Errno {
	if len(p.Target) > 0 {
		return api.ErrBusy
	}
	p.Target = slices.Clone(target)
	m.endMove(p)
	return api.OK
}

// endMove ends a move, if there is one, and all that it goes to are in sync.
func (m *Image) endMove(p *api.Part) {
	behind := func(n int) bool { return !slices.Contains(p.Isr, n) }
	if len(p.Target) == 0 || slices.ContainsFunc(p.Target, behind) {
		return
	}
	p.Replicas, p.Isr, p.Target = p.Target, slices.Clone(p.Target), nil
	p.Version++
	if !slices.Contains(p.Isr, p.Leader) {
		m.elect(p)
	}
}

// giveBlock gives the next numbers of producers to a node.
func (m *Image) giveBlock(n int) api.Errno {
	first, ok := m.pids.Block(api.BlockSize)
	if !ok {
		return api.ErrSpent
	}
	m.nodes[n].block = first
	return api.OK
}

// elect lets the first of those lead that are in sync and there.
func (m *Image) elect(p *api.Part) {
	p.Epoch++
	p.Leader = nobody
	if i := slices.IndexFunc(p.Isr, m.isThere); i >= 0 {
		p.Leader = p.Isr[i]
	}
}

// isThere is asked of nodes alone.
func (m *Image) isThere(n int) bool {
	return m.nodes[n].there
}
