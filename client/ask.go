package client

import (
	"bytes"

	"penstock/api"
)

const (
	patience = 5  // ticks behind which a request without an answer is sent again
	corrBits = 32 // of a Corr, those that count the requests of one beginning; so it's a new one behind each, though the count isn't known any more
)

// request is the request under way, and what takes its answer.
type request struct {
	msg      api.Msg
	taker    func(c *Client, asked, told api.Msg)
	patience int // ticks that are left till it is sent again
}

// waits tells whether a request is under way.
func (c *Client) waits() bool {
	return c.under.taker != nil
}

// ask sends a request to the node that has answered last for its partition.
func (c *Client) ask(m api.Msg, taker func(c *Client, asked, told api.Msg)) []api.Msg {
	c.asked++
	m.From, m.To, m.Corr = c.nodes+c.number, c.leaders[c.partOf(m)], c.inc<<corrBits+c.asked
	m.Tx, m.Member, m.Group, m.Inc = c.number, c.number, c.group, c.inc
	c.under = request{msg: m, taker: taker}
	return c.post()
}

// askAgain sends the request under way to the next node.
func (c *Client) askAgain() []api.Msg {
	c.under.msg.To = (c.under.msg.To + 1) % c.nodes
	return c.post()
}

// post sends the request under way.
func (c *Client) post() []api.Msg {
	c.under.patience = patience
	m := c.under.msg
	m.Batch.Values = copies(m.Batch.Values)
	return []api.Msg{m}
}

// partOf is the partition that a request is about.
func (c *Client) partOf(m api.Msg) int {
	switch m.Kind {
	case api.MProduce, api.MRead:
		return m.Part
	case api.MInit, api.MAdd, api.MEnd:
		return c.txPart()
	}
	return c.grPart()
}

// txPart is the partition that keeps transactions, grPart the one that keeps groups.
func (c *Client) txPart() int { return c.parts }
func (c *Client) grPart() int { return c.parts + 1 }

// isAnswer tells whether that answers the request under way.
func (c *Client) isAnswer(m api.Msg) bool {
	return c.waits() && m.Kind == api.MReply && m.Corr == c.under.msg.Corr && m.Inc == c.inc
}

// countsForNone tells whether an answer with that error is none, so that it is asked again.
func countsForNone(e api.Errno) bool {
	switch e {
	case api.ErrLeader, api.ErrBusy, api.ErrArg, api.ErrState, api.ErrNone, api.ErrDead, api.ErrFull:
		return true
	}
	return false
}

// take takes an answer without an error.
func (c *Client) take(m api.Msg) {
	u, k := c.under, c.partOf(c.under.msg)
	c.under = request{}
	if 0 <= m.From && m.From < c.nodes {
		c.leaders[k] = m.From
	}
	if k == c.grPart() {
		c.quiet = 0
	}
	u.taker(c, u.msg, m)
}

// takeRefusal takes an answer with an error.
func (c *Client) takeRefusal(e api.Errno) {
	switch {
	case e == api.ErrSpent:
		c.fail(e)
		c.end()
	case e == api.ErrGen && c.under.msg.Kind == api.MCommit:
		// What it has read needn't be read anew: it may yet be said, in the generation that there is now.
		c.under = request{}
		c.reading.passed = true
	default:
		// It has been fenced off, or its transaction was ended by others: by beginning anew it learns how.
		c.Again()
	}
}

// copies are the values, in memory of their own.
func copies(values [][]byte) [][]byte {
	var list [][]byte
	for _, v := range values {
		list = append(list, bytes.Clone(v))
	}
	return list
}
