package client

import (
	"fmt"
	"testing"

	"penstock/api"
)

// watch looks at all that a client does: P19.3, and how it asks.
type watch struct {
	t     *testing.T
	c     *Client
	under api.Msg // the request under way (Kind 0: none)
	text  string  // as it was sent first
	to    int     // to which node it was sent last
	ticks int     // since it was sent last
	place int
	corrs map[int]bool
	tally map[string]int // how often something has happened
	seen  int            // of its trace
	last  api.Seen
}

func newWatch(t *testing.T, c *Client) *watch {
	return &watch{t: t, c: c, corrs: map[int]bool{}, tally: map[string]int{}, last: api.Seen{Client: c.number}}
}

func (w *watch) tick() []api.Msg {
	w.t.Helper()
	w.ticks++
	before, from := w.seen, w.place
	out := w.sent(w.c.Tick())
	_, _, ended := w.c.State()
	if w.under.Kind != 0 && w.ticks >= 10 && !ended {
		w.t.Errorf("not sent again for %d ticks: %+v", w.ticks, w.under)
	}
	if w.under.Kind == 0 && w.seen == before && w.place == from && !ended {
		w.t.Error("nothing is done by a tick")
	}
	return out
}

func (w *watch) handle(m api.Msg) []api.Msg {
	w.t.Helper()
	before, inc, _ := w.c.State()
	asked := w.under.Kind
	if asked != 0 && m.Kind == api.MReply && m.Corr == w.under.Corr && m.Inc == w.under.Inc && !asksAgain(m.E) {
		w.under = api.Msg{}
	}
	unsure := asked == api.MInit && w.c.tx.open
	out := w.sent(w.c.Handle(m))
	switch place, now, _ := w.c.State(); {
	case now > inc:
		w.tally["begun anew by itself"]++
	case unsure && place > before:
		w.tally["learnt later"]++
	case w.c.reading.passed:
		w.tally["its generation passed"]++
	}
	return out
}

func asksAgain(e api.Errno) bool {
	return e == api.ErrLeader || e == api.ErrBusy || e == api.ErrArg || e == api.ErrState || e == api.ErrNone || e == api.ErrDead || e == api.ErrFull
}

func (w *watch) again() {
	w.t.Helper()
	place, inc, ended := w.c.State()
	w.c.Again()
	w.tally["begun anew"]++
	if p, i, e := w.c.State(); p != place || i != inc+1 || e != ended {
		w.t.Errorf("Again: %d, %d, %v behind %d, %d, %v", p, i, e, place, inc, ended)
	}
	w.under = api.Msg{}
	w.look()
}

// sent looks at what a client has sent, and at what it has seen.
func (w *watch) sent(list []api.Msg) []api.Msg {
	w.t.Helper()
	w.look()
	if len(list) > 1 {
		w.t.Errorf("it sends %d messages: %+v", len(list), list)
	}
	for _, m := range list {
		w.request(m)
	}
	return list
}

// request looks at a request: it is the one under way, or, if there is none, another one.
func (w *watch) request(m api.Msg) {
	w.t.Helper()
	_, inc, ended := w.c.State()
	if ended {
		w.t.Errorf("behind its end it sends %+v", m)
	}
	if m.To < 0 || m.To >= w.c.nodes {
		w.t.Errorf("it is sent to %d", m.To)
	}
	same := m
	same.To = 0
	if w.under.Kind != 0 {
		if got := fmt.Sprint(same); got != w.text {
			w.t.Errorf("under way: %s\nit sends %s", w.text, got)
		}
		if m.To != (w.to+1)%w.c.nodes {
			w.t.Errorf("behind %d it asks %d", w.to, m.To)
		}
	} else if w.corrs[m.Corr] {
		w.t.Errorf("the Corr isn't its own: %+v", m)
	}
	w.corrs[m.Corr] = true
	w.under, w.text, w.to, w.ticks = same, fmt.Sprint(same), m.To, 0
	if m.Inc != inc || m.From != w.c.nodes+w.c.number || m.Tx != w.c.number || m.Member != w.c.number || m.Group != w.c.group {
		w.t.Errorf("not as each request: %+v", m)
	}
}

// look looks at what the client has seen.
func (w *watch) look() {
	w.t.Helper()
	w.place, _, _ = w.c.State()
	if len(w.c.trace) == w.seen {
		return
	}
	list := w.c.Trace()
	for _, s := range list[w.seen:] {
		w.follows(s)
		w.last = s
		w.tally[[]string{"", "sent", "commit", "abort", "failed", "read", "seek", "done"}[s.Kind]]++
		if s.Kind == api.TrCommit && w.c.ops[s.Op].Kind == api.OCopy {
			w.tally["copied"]++
		}
		if s.Kind == api.TrFailed && s.E == api.ErrState {
			w.tally["failed"]--
		}
	}
	w.seen = len(list)
	if _, _, ended := w.c.State(); ended != (w.last.Kind == api.TrDone) {
		w.t.Errorf("ended: %v, behind %+v", ended, w.last)
	}
}

// follows: what is seen may come behind what was seen last, and is of its operation's kind.
func (w *watch) follows(s api.Seen) {
	w.t.Helper()
	back := w.last.Kind == api.TrFailed && w.last.E == api.ErrTxn
	over := w.last.Kind == api.TrSent || w.last.Kind == api.TrCommit || w.last.Kind == api.TrAbort
	switch {
	case w.last.Kind == api.TrDone,
		w.last.Kind == api.TrFailed && w.last.E == api.ErrSpent && s.Kind != api.TrDone,
		s.Client != w.c.number || s.Op < 0 || s.Op > len(w.c.ops),
		!back && (s.Op < w.last.Op || over && s.Op == w.last.Op):
		w.t.Errorf("behind %+v comes %+v", w.last, s)
	}
	kind := 0
	if s.Op < len(w.c.ops) {
		kind = w.c.ops[s.Op].Kind
	}
	reads := kind == api.OPoll || kind == api.OCopy
	fits := map[int]bool{
		api.TrSent:   kind == api.OSend,
		api.TrCommit: kind == api.OCommit || kind == api.OCopy,
		api.TrAbort:  kind == api.OAbort,
		api.TrFailed: s.E == api.ErrTxn || s.E == api.ErrSpent || s.E == api.ErrState && kind == api.OCopy,
		api.TrRead:   reads,
		api.TrSeek:   reads,
		api.TrDone:   kind == 0 || w.last.E == api.ErrSpent,
	}
	if !fits[s.Kind] {
		w.t.Errorf("at an operation of the kind %d: %+v", kind, s)
	}
}
