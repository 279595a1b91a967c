package client

import "penstock/api"

// producer is the client's producer, and the epoch of its next transaction.
type producer struct {
	known bool
	pid   uint64
	epoch int
}

// laid is what a transaction has in the partitions.
type laid struct {
	added [api.MaxParts + 2]bool
	next  [api.MaxParts]int // the Seq of the next batch
}

// send writes the operation's value.
func (c *Client) send() []api.Msg {
	op := c.op()
	if out, asks := c.add(op.Part); asks {
		return out
	}
	return c.produce(op.Part, [][]byte{[]byte(op.Value)}, (*Client).takeSent)
}

func (c *Client) takeSent(asked, told api.Msg) {
	c.laid.next[asked.Part]++
	c.see(api.Seen{Kind: api.TrSent, Part: asked.Part, Offset: told.Offset, Value: c.op().Value})
	c.next()
}

// endTx ends the transaction as the operation asks.
func (c *Client) endTx() []api.Msg {
	if c.tx.open {
		return c.askEnd()
	}
	c.seeEnd()
	return nil
}

// add asks for what has to stand ahead of a batch in a partition: a producer, and the partition in its transaction, which begins by that if none is open; false: there is nothing left to ask.
func (c *Client) add(k int) ([]api.Msg, bool) {
	if !c.producer.known {
		return c.askProducer(), true
	}
	if !c.tx.open {
		c.tx = transaction{open: true, pid: c.producer.pid, epoch: c.producer.epoch, first: c.place}
		c.laid = laid{}
	}
	if c.laid.added[k] {
		return nil, false
	}
	return c.ask(api.Msg{Kind: api.MAdd, Pid: c.tx.pid, Epoch: c.tx.epoch, Offset: k}, (*Client).takeAdded), true
}

func (c *Client) takeAdded(asked, told api.Msg) {
	c.laid.added[asked.Offset] = true
}

// produce writes values within the transaction, as one batch.
func (c *Client) produce(k int, values [][]byte, taker func(c *Client, asked, told api.Msg)) []api.Msg {
	b := api.Batch{Pid: c.tx.pid, PEpoch: c.tx.epoch, Seq: c.laid.next[k], Txn: true, Values: values}
	return c.ask(api.Msg{Kind: api.MProduce, Part: k, Batch: b}, taker)
}

// askEnd asks for the transaction's end.
func (c *Client) askEnd() []api.Msg {
	return c.ask(api.Msg{Kind: api.MEnd, Pid: c.tx.pid, Epoch: c.tx.epoch, Commit: c.commits()}, (*Client).takeEnd)
}

func (c *Client) takeEnd(asked, told api.Msg) {
	c.producer.epoch = told.Epoch
	c.seeEnd()
}

// askProducer asks for a producer, and for how the last transaction has ended.
func (c *Client) askProducer() []api.Msg {
	return c.ask(api.Msg{Kind: api.MInit}, (*Client).takeProducer)
}

// takeProducer takes a producer, and, of a client that has begun anew amid a transaction, what has become of that.
func (c *Client) takeProducer(asked, told api.Msg) {
	c.producer = producer{known: true, pid: told.Pid, epoch: told.Epoch}
	t := c.tx
	if !t.open {
		return
	}
	if told.Offset == t.epoch && uint64(told.High) == t.pid && c.ends() && told.Commit == c.commits() {
		c.seeEnd()
		return
	}
	c.fail(api.ErrTxn)
	c.tx = transaction{}
	c.place = t.first
}

// ends tells whether the client stands at an operation that ends its transaction.
func (c *Client) ends() bool {
	if c.place == len(c.ops) {
		return false
	}
	kind := c.op().Kind
	return kind == api.OCommit || kind == api.OAbort || kind == api.OCopy
}

// commits tells whether the operation commits, of those that end a transaction.
func (c *Client) commits() bool {
	return c.op().Kind != api.OAbort
}

// seeEnd takes note that the transaction has ended as the operation asks, and goes on.
func (c *Client) seeEnd() {
	kind := api.TrAbort
	if c.commits() {
		kind = api.TrCommit
	}
	c.see(api.Seen{Kind: kind})
	c.tx = transaction{}
	c.next()
}
