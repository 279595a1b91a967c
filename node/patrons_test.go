package node

import (
	"fmt"
	"slices"

	"penstock/api"
	"penstock/batch"
	"penstock/group"
)

// The partition from which on what is written is copied, and the one to which it is, and to which nobody else writes.
const (
	copiesFrom = 0
	copiesTo   = 1
)

// patron is a client that writes by transactions, or copies what others wrote, for ever; it asks again where no answer comes.
type patron struct {
	crowd  *crowd
	number int
	copies bool
	inc    int
	pid    uint64
	epoch  int
	under  api.Msg // the request under way (Kind 0: none)
	since  int     // ticks since that was sent
	heard  bool    // it was told to ask again
	to     int
	steps  []api.Msg // what is to be asked yet, of the transaction under way
	deal   *deal     // the transaction under way
	unsure bool      // it is to be learnt how that ended
	stop   bool      // it begins nothing any more
	gen    int
	place  int // from where on it copies
}

// deal is a transaction: what it writes, and how it has ended.
type deal struct {
	pid    uint64
	epoch  int
	commit bool
	values map[int][]string // of each partition
	ended  bool
	failed bool
}

func (p *patron) address() int { return p.crowd.config.Nodes + p.number }

// tick lets the client ask, or ask again.
func (p *patron) tick() {
	if p.under.Kind == 0 {
		p.next()
		return
	}
	p.since++
	if p.since >= 10 {
		if !p.heard {
			p.to++
		}
		p.post()
	}
}

func (p *patron) post() {
	p.since, p.heard = 0, false
	m := p.under
	m.To = p.to % p.crowd.config.Nodes
	p.crowd.flight = append(p.crowd.flight, m)
}

func (p *patron) ask(m api.Msg) {
	p.crowd.asked++
	m.From, m.Corr, m.Inc, m.Tx, m.Member = p.address(), p.crowd.asked, p.inc, p.number, p.number
	p.under = m
	p.post()
}

// again lets the client begin anew.
func (p *patron) again() {
	p.inc++
	p.pid = 0
	p.under = api.Msg{}
	p.unsure = p.deal != nil
	p.steps = nil
}

// next asks the next thing.
func (p *patron) next() {
	switch {
	case p.pid == 0:
		p.ask(api.Msg{Kind: api.MInit})
	case len(p.steps) > 0:
		m := p.steps[0]
		m.Pid, m.Epoch = p.pid, p.epoch
		if m.Kind == api.MProduce {
			m.Pid, m.Epoch = 0, 0
		}
		p.ask(m)
	case p.stop:
	case p.copies:
		p.ask(api.Msg{Kind: api.MJoin, Group: 1})
	default:
		p.begin()
		p.next()
	}
}

// begin draws a transaction.
func (p *patron) begin() {
	x := p.crowd
	d := &deal{pid: p.pid, epoch: p.epoch, commit: x.draw.Intn(3) > 0, values: map[int][]string{}}
	p.deal = d
	x.deals = append(x.deals, d)
	for range 1 + x.draw.Intn(3) {
		k := x.draw.Intn(x.config.Parts)
		if k == copiesTo {
			k = copiesFrom
		}
		x.asked++
		p.write(k, fmt.Sprintf("%d:%06d", p.number, x.asked))
	}
	p.steps = append(p.steps, api.Msg{Kind: api.MEnd, Commit: d.commit})
}

func (p *patron) write(k int, values ...string) {
	d := p.deal
	if len(d.values[k]) == 0 {
		p.steps = append(p.steps, api.Msg{Kind: api.MAdd, Offset: k})
	}
	b := within(p.pid, p.epoch, len(d.values[k]), values...)
	p.steps = append(p.steps, api.Msg{Kind: api.MProduce, Part: k, Batch: b})
	d.values[k] = append(d.values[k], values...)
}

// take takes an answer.
func (p *patron) take(m api.Msg) {
	if p.under.Kind == 0 || m.Corr != p.under.Corr || m.Inc != p.inc {
		return
	}
	switch m.E {
	case api.OK:
	case api.ErrLeader, api.ErrBusy, api.ErrArg, api.ErrState, api.ErrNone, api.ErrDead, api.ErrFull:
		if m.E == api.ErrLeader {
			p.to++
		}
		p.since, p.heard = 8, true
		return
	default:
		p.crowd.seen[fmt.Sprint("refused ", m.E)]++
		p.again()
		return
	}
	was := p.under
	p.under = api.Msg{}
	switch was.Kind {
	case api.MInit:
		if p.unsure {
			p.learn(m)
		}
		p.pid, p.epoch = m.Pid, m.Epoch
	case api.MJoin:
		p.gen = m.Gen
		if group.Owner(m.Members, copiesFrom) == p.number {
			p.ask(api.Msg{Kind: api.MOffset, Group: 1, Part: copiesFrom})
		}
	case api.MOffset:
		p.place = m.Offset
		p.ask(api.Msg{Kind: api.MRead, Part: copiesFrom, Offset: m.Offset})
	case api.MRead:
		p.copy(m)
	case api.MEnd:
		p.deal.ended = true
		p.crowd.seen["ended"]++
		p.deal = nil
		p.epoch = m.Epoch
		p.steps = p.steps[1:]
	default:
		p.steps = p.steps[1:]
	}
}

// learn takes up how the transaction under way has ended.
func (p *patron) learn(m api.Msg) {
	d := p.deal
	p.unsure, p.deal = false, nil
	if m.Offset == d.epoch && m.High == int(d.pid) && m.Commit == d.commit {
		d.ended = true
		p.crowd.seen["ended, learnt later"]++
		return
	}
	d.failed = true
	p.crowd.seen["failed"]++
}

// copy writes what it has read, and how far it has come, by one transaction.
func (p *patron) copy(m api.Msg) {
	place := p.place
	var values []string
	for _, b := range m.Batches {
		place = b.Base + batch.Size(b)
		gone := slices.ContainsFunc(m.Aborts, func(a api.Abort) bool { return a.Pid == b.Pid && a.First <= b.Base && b.Base < a.Last })
		if b.Control || b.Txn && gone {
			continue
		}
		for i, v := range b.Values {
			if b.Base+i >= p.place && len(values) < api.MaxValues {
				values = append(values, string(v))
			}
		}
	}
	if len(values) == 0 {
		return
	}
	d := &deal{pid: p.pid, epoch: p.epoch, commit: true, values: map[int][]string{}}
	p.deal = d
	p.crowd.deals = append(p.crowd.deals, d)
	p.crowd.seen["copied"]++
	p.steps = []api.Msg{{Kind: api.MAdd, Offset: p.crowd.config.Parts + 1}}
	p.write(copiesTo, values...)
	p.steps = append(p.steps,
		api.Msg{Kind: api.MTxCommit, Group: 1, Gen: p.gen, Part: copiesFrom, Offset: place},
		api.Msg{Kind: api.MEnd, Commit: true})
}

// committed are the values that a log says, in their order.
func committed(log []api.Batch) []string {
	var list []string
	for i, b := range log {
		if b.Control {
			continue
		}
		counts := !b.Txn
		for _, c := range log[i:] {
			if c.Control && c.Pid == b.Pid {
				counts = c.Commit
				break
			}
		}
		for _, v := range b.Values {
			if counts {
				list = append(list, string(v))
			}
		}
	}
	return list
}
