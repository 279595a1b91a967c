package node

import (
	"slices"

	"penstock/api"
	"penstock/batch"
	"penstock/txn"
)

const (
	openTicks     = 100 // for which a transaction may be open
	openTicksOp   = 10  // and for each operation of a program
	openTicksPoll = 100 // but for each OPoll: it asks one thing of each partition behind the other
	markAgain     = 4   // ticks behind which a marker is sent again
)

// txns is what the leader of the transactions' partition knows. It decides by all that stands in its log; what it does beside its log rests on what is committed there.
type txns struct {
	patience   int // ticks for which a transaction may be open
	laid, held *txn.State
	tail       []laidTx            // what laid has, and held hasn't
	used       map[uint64]struct{} // numbers of producers
	marks      map[[2]int]mark     // by the name and the partition, of transactions that end
	ages       [api.MaxTxs]int     // ticks for which the name's transaction has been open
}

// laidTx is records, and where the batch ends in which they stand.
type laidTx struct {
	end  int
	list []api.TxRec
}

// mark is how far a marker has come: when it was sent last, and whether it is committed.
type mark struct {
	clock int
	done  bool
}

// openFor is for how many ticks a transaction may be open. It is as long as the slowest program may take where all goes well, so that this is never aborted over and over again, and goes on from its beginning for ever.
func openFor(c api.Config) int {
	slowest := 0
	for _, p := range c.Clients {
		slowest = max(slowest, ticksOf(p))
	}
	return openTicks + slowest
}

// ticksOf is how many ticks a program may take.
func ticksOf(p api.Program) int {
	sum := 0
	for _, o := range p.Ops {
		if o.Kind == api.OPoll {
			sum += openTicksPoll
		} else {
			sum += openTicksOp
		}
	}
	return sum
}

// newTxns knows nothing; it is to begin.
func newTxns(c api.Config) txns {
	return txns{patience: openFor(c), used: map[uint64]struct{}{}, marks: map[[2]int]mark{}}
}

// begin learns what a log says.
func (t *txns) begin(log []api.Batch) {
	t.clear()
	t.laid, t.held = txn.New(), txn.New()
	for _, b := range log {
		t.note(b)
	}
}

// clear forgets all that a leader knew.
func (t *txns) clear() {
	t.laid, t.held, t.tail = nil, nil, nil
	t.ages = [api.MaxTxs]int{}
	clear(t.used)
	clear(t.marks)
}

// note takes note of a batch that stands in the log. A producer's is none of the coordinator's own.
func (t *txns) note(b api.Batch) {
	if b.Pid != 0 {
		return
	}
	x := laidTx{end: b.Base + batch.Size(b)}
	for _, v := range b.Values {
		if r, e := txn.Decode(v); e == api.OK {
			t.learn(r)
			x.list = append(x.list, r)
		}
	}
	t.tail = append(t.tail, x)
}

// learn takes note of a record.
func (t *txns) learn(r api.TxRec) {
	t.laid.Apply(r)
	if r.Kind == api.TInit {
		t.used[r.Pid] = struct{}{}
	}
	// All others end a transaction, or find none.
	if r.Kind != api.TAdd {
		t.ages[r.Tx] = 0
	}
}

// hold takes note of what is committed, up to the high watermark.
func (t *txns) hold(high int) {
	for len(t.tail) > 0 && t.tail[0].end <= high {
		for _, r := range t.tail[0].list {
			t.held.Apply(r)
		}
		t.tail = t.tail[1:]
	}
}

// ending is what is known of a name whose transaction is to be ended by markers: that is decided, committed, and not done yet.
func (t *txns) ending(name int) (api.Tx, bool) {
	now, sure := t.laid.Tx(name), t.held.Tx(name)
	return now, now.State == api.TxPrepared && now.Last == sure.Last && now.LastPid == sure.LastPid
}

// freePid is a number of a producer that the node may give out; 0: it has none. Which ones were given out the log says, so that a new start wastes none.
func (n *Node) freePid() uint64 {
	_, _, block := n.image.Node(n.id)
	if block == 0 {
		return 0
	}
	for i := range uint64(api.BlockSize) {
		if _, used := n.txns.used[block+i]; !used {
			return block + i
		}
	}
	return 0
}

func (n *Node) initTx(m api.Msg) {
	t, k := &n.txns, n.txPart()
	r, lays, e := t.laid.Init(m.Tx, m.Inc, n.freePid())
	if e == api.ErrBusy && n.isSpent(m) {
		e = api.ErrSpent
	}
	if lays {
		if fault := n.layTx(r); fault != api.OK {
			e = fault
		}
	}
	if e != api.OK {
		n.refuse(k, m, e)
		return
	}
	x := t.laid.Tx(m.Tx)
	n.answer(k, m, api.Msg{Pid: x.Pid, Epoch: x.Epoch, Offset: x.Last, High: int(x.LastPid), Commit: x.Commit})
}

// isSpent tells whether a name isn't given a producer since there is no number of one any more.
func (n *Node) isSpent(m api.Msg) bool {
	_, left := n.image.Pids()
	_, would, e := n.txns.laid.Init(m.Tx, m.Inc, api.MaxPid)
	return left < api.BlockSize && would && e == api.OK
}

func (n *Node) addToTx(m api.Msg) {
	k := n.txPart()
	// Layer 15 knows how many partitions there may be, and not how many there are; in one that there isn't no marker would ever stand.
	if !n.isPart(m.Offset) {
		n.refuse(k, m, api.ErrArg)
		return
	}
	r, lays, e := n.txns.laid.Add(m.Tx, m.Pid, m.Epoch, m.Offset)
	if lays {
		e = n.layTx(r)
	}
	n.refuse(k, m, e)
}

func (n *Node) endTx(m api.Msg) {
	k := n.txPart()
	r, lays, e := n.txns.laid.End(m.Tx, m.Pid, m.Epoch, m.Commit)
	if lays {
		e = n.layTx(r)
		if e == api.OK {
			e = api.ErrBusy // till the markers stand
		}
	}
	if e != api.OK {
		n.refuse(k, m, e)
		return
	}
	n.answer(k, m, api.Msg{Epoch: n.txns.laid.Tx(m.Tx).Epoch})
}

// layTx lays a record in the transactions' log.
func (n *Node) layTx(r api.TxRec) api.Errno {
	text, e := txn.Encode(r)
	if e != api.OK {
		return e
	}
	_, e = n.lay(n.txPart(), api.Batch{Values: [][]byte{text}})
	return e
}

// tickTxns aborts what has been open for long.
func (n *Node) tickTxns() {
	t := &n.txns
	if !n.isReady(n.txPart()) {
		return
	}
	for _, name := range t.laid.Names() {
		x := t.laid.Tx(name)
		if x.State != api.TxOngoing {
			continue
		}
		t.ages[name]++
		if t.ages[name] <= t.patience {
			continue
		}
		if r, lays, _ := t.laid.End(name, x.Pid, x.Epoch, false); lays {
			n.layTx(r)
		}
	}
}

// endTxns ends the transactions that are decided: by markers, and then for good.
func (n *Node) endTxns() {
	t, k := &n.txns, n.txPart()
	if !n.isReady(k) {
		return
	}
	t.hold(n.parts[k].high())
	for _, name := range t.laid.Names() {
		x, ends := t.ending(name)
		if !ends || !n.markAll(name, x) {
			continue
		}
		if n.layTx(api.TxRec{Kind: api.TDone, Tx: name}) == api.OK {
			t.forget(name, x.Parts)
		}
	}
}

// forget lets the marks of a transaction go.
func (t *txns) forget(name int, parts []int) {
	for _, k := range parts {
		delete(t.marks, [2]int{name, k})
	}
}

// markAll tells whether a transaction's markers are committed in all its partitions; where they aren't they are sent, now and then.
func (n *Node) markAll(name int, x api.Tx) bool {
	all := true
	for _, k := range x.Parts {
		key := [2]int{name, k}
		last, sent := n.txns.marks[key]
		if last.done {
			continue
		}
		all = false
		p, _ := n.image.Part(k)
		if p.Leader == nobody || sent && n.clock-last.clock < markAgain {
			continue
		}
		n.txns.marks[key] = mark{clock: n.clock}
		n.send(api.Msg{Kind: api.MMarker, To: p.Leader, Tx: name, Part: k, Batch: markerOf(x)})
	}
	return all
}

// markerOf ends a transaction in a partition. Its epoch is one more, so that what comes late is fenced off.
func markerOf(x api.Tx) api.Batch {
	return api.Batch{Pid: x.LastPid, PEpoch: x.Last + 1, Txn: true, Control: true, Commit: x.Commit}
}

// takeMarker lays a coordinator's marker. A producer that has gone on to a greater epoch has none open that this could end.
func (n *Node) takeMarker(m api.Msg) {
	k, b := m.Part, m.Batch
	if !n.isPart(k) || !n.leads(k) || !b.Control {
		return
	}
	if _, e := n.lay(k, b); e != api.OK && e != api.ErrFenced {
		return
	}
	n.parts[k].wait(toldTo(m, api.Msg{Part: k, Pid: b.Pid, Epoch: b.PEpoch}))
}

// takeMarked takes note that a marker is committed.
func (n *Node) takeMarked(m api.Msg) {
	if !n.isReady(n.txPart()) {
		return
	}
	x, ends := n.txns.ending(m.Tx)
	b := markerOf(x)
	if ends && m.Pid == b.Pid && m.Epoch == b.PEpoch && slices.Contains(x.Parts, m.Part) {
		n.txns.marks[[2]int{m.Tx, m.Part}] = mark{done: true}
	}
}
