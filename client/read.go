package client

import (
	"bytes"
	"slices"

	"penstock/api"
	"penstock/group"
)

const maxQuiet = 20 // ticks behind which a client that is amid reading lets its group's coordinator hear of it; behind 40 it might be let go

// reading is how far the client has come at an operation that reads.
type reading struct {
	joined bool
	gen    int
	turns  []int              // the partitions in which there may be more, the next one first
	spots  [api.MaxParts]spot // of each partition, where the client is
	values [][]byte           // that were read
	passed bool               // the generation has passed

	written, told bool // what was read, and how far the group has come by that; of OCopy
}

// spot is where a client is in a partition.
type spot struct {
	sought bool // it knows where to begin
	first  int  // where it began
	at     int
}

// poll reads the partitions that fall to the client, and says how far it has come.
func (c *Client) poll() []api.Msg {
	r := &c.reading
	if out, asks := c.stay(); asks {
		return out
	}
	if out, asks := c.readOn(); asks {
		return out
	}
	if r.passed {
		return c.ask(api.Msg{Kind: api.MJoin}, (*Client).takeRejoined)
	}
	for k, s := range r.spots {
		if s.at != s.first {
			return c.ask(api.Msg{Kind: api.MCommit, Gen: r.gen, Part: k, Offset: s.at}, (*Client).takeCommitted)
		}
	}
	c.next()
	return nil
}

// copy reads, and writes what it has read, and how far the group has come by that, by one transaction.
func (c *Client) copy() []api.Msg {
	r, op := &c.reading, c.op()
	if c.tx.open && c.tx.first != c.place {
		c.fail(api.ErrState)
		c.next()
		return nil
	}
	if out, asks := c.stay(); asks {
		return out
	}
	if out, asks := c.readOn(); asks {
		return out
	}
	if len(r.values) == 0 {
		c.next()
		return nil
	}
	for _, k := range []int{c.grPart(), op.To} {
		if out, asks := c.add(k); asks {
			return out
		}
	}
	if !r.written {
		return c.produce(op.To, r.values, (*Client).takeWritten)
	}
	if !r.told {
		m := api.Msg{Kind: api.MTxCommit, Gen: r.gen, Part: op.Part, Offset: r.spots[op.Part].at, Pid: c.tx.pid, Epoch: c.tx.epoch}
		return c.ask(m, (*Client).takeTold)
	}
	return c.askEnd()
}

func (c *Client) takeWritten(asked, told api.Msg) {
	c.reading.written = true
}

func (c *Client) takeTold(asked, told api.Msg) {
	c.reading.told = true
}

// stay asks to be among the group's members still, if the coordinator hasn't heard of the client for a while: who reads for long would be let go, and what it has read would be for nothing, over and over again; false: it needn't.
func (c *Client) stay() ([]api.Msg, bool) {
	if !c.reading.joined || c.quiet < maxQuiet {
		return nil, false
	}
	return c.ask(api.Msg{Kind: api.MJoin}, (*Client).takeStay), true
}

// takeStay learns whether the generation has passed. What OCopy has read another one may have copied by then; what OPoll has read is read.
func (c *Client) takeStay(asked, told api.Msg) {
	switch {
	case told.Gen == c.reading.gen:
	case c.op().Kind == api.OPoll:
		c.takeRejoined(asked, told)
	case !c.tx.open:
		c.reading = reading{}
	}
}

// readOn asks for what is to be read; false: there are as many records as there should be, or there is no more.
func (c *Client) readOn() ([]api.Msg, bool) {
	r := &c.reading
	switch {
	case c.readsNoMore():
		return nil, false
	case !r.joined:
		return c.ask(api.Msg{Kind: api.MJoin}, (*Client).takeJoined), true
	case len(r.turns) == 0:
		return nil, false
	}
	k := r.turns[0]
	if s := r.spots[k]; s.sought {
		return c.ask(api.Msg{Kind: api.MRead, Part: k, Offset: s.at}, (*Client).takeRead), true
	}
	return c.ask(api.Msg{Kind: api.MOffset, Part: k}, (*Client).takeOffset), true
}

// readsNoMore tells whether the operation has as many records as it asks for.
func (c *Client) readsNoMore() bool {
	return len(c.reading.values) >= c.op().Count
}

// takeJoined learns which of the partitions that the operation reads fall to the client.
func (c *Client) takeJoined(asked, told api.Msg) {
	r, op := &c.reading, c.op()
	r.joined, r.gen = true, told.Gen
	for k := range c.parts {
		if c.falls(told.Members, k) && (op.Kind == api.OPoll || k == op.Part) {
			r.turns = append(r.turns, k)
		}
	}
}

// takeRejoined learns the generation that there is now. Of what falls to others there is nothing to say any more.
func (c *Client) takeRejoined(asked, told api.Msg) {
	r := &c.reading
	r.passed, r.gen = false, told.Gen
	for k := range r.spots {
		if !c.falls(told.Members, k) {
			r.spots[k] = spot{}
		}
	}
	r.turns = slices.DeleteFunc(r.turns, func(k int) bool { return !c.falls(told.Members, k) })
}

// falls tells whether a partition falls to the client.
func (c *Client) falls(members []int, k int) bool {
	return group.Owner(members, k) == c.number
}

func (c *Client) takeOffset(asked, told api.Msg) {
	k, from := asked.Part, told.Offset
	c.see(api.Seen{Kind: api.TrSeek, Part: k, Offset: from})
	c.reading.spots[k] = spot{sought: true, first: from, at: from}
}

// takeRead reads what an answer tells, and lets the next partition have its turn.
func (c *Client) takeRead(asked, told api.Msg) {
	r, k := &c.reading, asked.Part
	for _, b := range told.Batches {
		if c.readsNoMore() {
			break
		}
		c.read(k, b, told.Aborts)
	}
	r.turns = slices.Delete(r.turns, 0, 1)
	// Up to High there is no more; and where nothing moves there is none, wherever that is.
	if at := r.spots[k].at; at != asked.Offset && at != told.High {
		r.turns = append(r.turns, k)
	}
}

// read reads a batch from where the client is, or passes it over.
func (c *Client) read(k int, b api.Batch, aborts []api.Abort) {
	s := &c.reading.spots[k]
	if b.Control {
		s.at = max(s.at, b.Base+1)
		return
	}
	if b.Txn && isAborted(b, aborts) {
		s.at = max(s.at, b.Base+len(b.Values))
		return
	}
	for i, v := range b.Values {
		offset := b.Base + i
		if offset < s.at {
			continue
		}
		if c.readsNoMore() {
			return
		}
		c.see(api.Seen{Kind: api.TrRead, Part: k, Offset: offset, Value: string(v)})
		c.reading.values = append(c.reading.values, bytes.Clone(v))
		s.at = offset + 1
	}
}

// isAborted tells whether a batch stands in a transaction that was aborted.
func isAborted(b api.Batch, aborts []api.Abort) bool {
	return slices.ContainsFunc(aborts, func(a api.Abort) bool {
		return a.Pid == b.Pid && a.First <= b.Base && b.Base < a.Last
	})
}

// takeCommitted takes note that the group has come to where the client is.
func (c *Client) takeCommitted(asked, told api.Msg) {
	s := &c.reading.spots[asked.Part]
	s.first = s.at
}
