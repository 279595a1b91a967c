package cluster

import (
	"slices"
	"testing"

	"penstock/api"
	"penstock/wire"
)

// The document's ten examples of the whole.

// valuesOf are the values that are committed in a partition.
func (r *run) valuesOf(k int) []string {
	var list []string
	for _, m := range r.committed(k) {
		list = append(list, m.Value)
	}
	return list
}

// wantValues: these are committed, in this order.
func (r *run) wantValues(k int, want ...string) {
	r.t.Helper()
	if got := r.valuesOf(k); !slices.Equal(got, want) {
		r.t.Errorf("in the partition %d are committed %q, want %q", k, got, want)
	}
}

func TestExampleOfACommit(t *testing.T) {
	r := newRun(t, settings(1, 1, []api.Op{send(0, "a"), commits}))
	r.wantTrace(sent(0, 0, 0, "a"), sees(api.TrCommit, 1), sees(api.TrDone, 2))
	r.wantValues(0, "a")
	if log, high := r.log(0); len(log) != 2 || high != 2 || !log[1].Control || !log[1].Commit {
		t.Errorf("the log is %+v, up to %d", log, high)
	}
}

func TestExampleOfAnAbort(t *testing.T) {
	r := newRun(t, settings(1, 1, []api.Op{send(0, "a"), aborts}))
	r.wantTrace(sent(0, 0, 0, "a"), sees(api.TrAbort, 1), sees(api.TrDone, 2))
	r.wantValues(0)
}

func TestExampleOfNoTransaction(t *testing.T) {
	r := newRun(t, settings(1, 1, []api.Op{commits}))
	r.wantTrace(sees(api.TrCommit, 0), sees(api.TrDone, 1))
}

func TestExampleOfReading(t *testing.T) {
	r := newRun(t, settings(1, 1, []api.Op{send(0, "a"), send(0, "b"), commits, poll(5)}))
	r.wantTrace(sent(0, 0, 0, "a"), sent(1, 0, 1, "b"), sees(api.TrCommit, 2),
		seek(3, 0, 0), read(3, 0, 0, "a"), read(3, 0, 1, "b"), sees(api.TrDone, 4))
}

func TestExampleOfReadingNothing(t *testing.T) {
	r := newRun(t, settings(1, 1, []api.Op{send(0, "a"), aborts, poll(5)}))
	r.wantTrace(sent(0, 0, 0, "a"), sees(api.TrAbort, 1), seek(2, 0, 0), sees(api.TrDone, 3))
}

// TestExampleOfABreak: the leader's disk breaks ahead of the commit, behind any number of bytes; another one leads, and the leader stays down.
func TestExampleOfABreak(t *testing.T) {
	t.Parallel()
	broke := 0
	for i := range 50 {
		r := newRun(t, settings(3, 1, []api.Op{send(0, "a"), commits}))
		r.until(api.TrSent, 1)
		leader := r.leader(0)
		r.down = []int{leader}
		r.do(api.Event{Kind: api.ECrash, A: leader, B: 3 * i})
		r.wantTrace(sent(0, 0, 0, "a"), sees(api.TrCommit, 1), sees(api.TrDone, 2))
		r.wantValues(0, "a")
		if !r.x.Up(leader) {
			broke++
			if r.leader(0) < 0 || r.leader(0) == leader {
				t.Errorf("the node %d leads behind %d", r.leader(0), leader)
			}
		}
	}
	if broke < 12 {
		t.Errorf("the disk broke %d times", broke)
	}
	// Ahead of the record's being laid.
	r := newRun(t, settings(3, 1, []api.Op{send(0, "a"), commits}))
	r.calmRounds(30)
	if leader := r.leader(0); leader < 0 {
		t.Error("nobody leads")
	} else {
		r.breaks(leader)
	}
	r.wantTrace(sent(0, 0, 0, "a"), sees(api.TrCommit, 1), sees(api.TrDone, 2))
	r.wantValues(0, "a")
}

func TestExampleOfBeginningAnew(t *testing.T) {
	r := newRun(t, settings(1, 1, []api.Op{send(0, "a"), commits}))
	r.until(api.TrSent, 1)
	r.do(api.Event{Kind: api.EAgain})
	r.finish()
	failed := api.Seen{Kind: api.TrFailed, Op: 1, E: api.ErrTxn}
	// Behind the first one, and the marker that aborts it.
	r.wantTrace(sent(0, 0, 0, "a"), failed, sent(0, 0, 2, "a"), sees(api.TrCommit, 1), sees(api.TrDone, 2))
	r.wantValues(0, "a")
}

// TestExampleOfALostAnswer: the first answers that MEnd is done are lost.
func TestExampleOfALostAnswer(t *testing.T) {
	for lost := range 5 {
		r := newRun(t, settings(1, 1, []api.Op{send(0, "a"), commits}))
		r.until(api.TrSent, 1)
		for count := 0; count < lost; {
			r.calmRounds(1)
			for i := range r.x.Flight() {
				p, _ := r.x.way.Peek(i)
				if m, e := wire.Decode(p.Body); e == api.OK && m.Kind == api.MReply && m.E == api.OK {
					r.do(api.Event{Kind: api.EDrop, A: i})
					count++
					break
				}
			}
		}
		r.wantTrace(sent(0, 0, 0, "a"), sees(api.TrCommit, 1), sees(api.TrDone, 2))
		r.wantValues(0, "a")
	}
}

func TestExampleOfCopying(t *testing.T) {
	r := newRun(t, settings(1, 2, []api.Op{send(0, "a"), commits, duplicate(0, 1, 5), duplicate(0, 1, 5)}))
	r.wantTrace(sent(0, 0, 0, "a"), sees(api.TrCommit, 1), seek(2, 0, 0), read(2, 0, 0, "a"), sees(api.TrCommit, 2),
		seek(3, 0, 2), sees(api.TrDone, 4))
	r.wantValues(0, "a")
	r.wantValues(1, "a")
}

// TestExampleOfOneDown: of three one is down for ever.
func TestExampleOfOneDown(t *testing.T) {
	for down := range 3 {
		r := newRun(t, settings(3, 1, []api.Op{send(0, "a"), commits, poll(2)}))
		r.breaks(down)
		r.wantTrace(sent(0, 0, 0, "a"), sees(api.TrCommit, 1), seek(2, 0, 0), read(2, 0, 0, "a"), sees(api.TrDone, 3))
		r.wantValues(0, "a")
		if r.x.Up(down) {
			t.Errorf("the node %d is up", down)
		}
	}
}
