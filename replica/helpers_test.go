package replica

import (
	"fmt"
	"math"
	"testing"

	"penstock/api"
	"penstock/disk"
)

// longest is more bytes than a batch of these tests' has in its file.
const longest = 40

func openOn(t *testing.T, d *disk.Disk, part, me int) *Replica {
	t.Helper()
	r, e := Open(d, "p0", part, me)
	if r == nil || e != api.OK {
		t.Fatalf("Open(%d, %d) = %v, %d", part, me, r, e)
	}
	return r
}

// fresh is the partition 0 on a node with an empty disk.
func fresh(t *testing.T, me int) *Replica {
	t.Helper()
	return openOn(t, disk.New(), 0, me)
}

// leader is the node 0, that leads in an epoch.
func leader(t *testing.T, epoch int, isr ...int) *Replica {
	t.Helper()
	return leads(t, fresh(t, 0), epoch, isr...)
}

func leads(t *testing.T, r *Replica, epoch int, isr ...int) *Replica {
	t.Helper()
	wantErrno(t, "Lead", r.Lead(epoch, isr), api.OK)
	return r
}

// follower is the node 1, that follows in an epoch, and whose log has these batches.
func follower(t *testing.T, epoch int, list ...api.Batch) *Replica {
	t.Helper()
	r := fresh(t, 1)
	wantErrno(t, "Follow", r.Follow(epoch), api.OK)
	wantErrno(t, "Accept", r.Accept(answer(epoch, 0, list...)), api.OK)
	return r
}

// plain are records without a producer.
func plain(values ...string) api.Batch {
	var b api.Batch
	for _, v := range values {
		b.Values = append(b.Values, []byte(v))
	}
	return b
}

// sent are records of a producer.
func sent(pid uint64, epoch, seq int, values ...string) api.Batch {
	b := plain(values...)
	b.Pid, b.PEpoch, b.Seq = pid, epoch, seq
	return b
}

// within are records of a producer's transaction.
func within(pid uint64, epoch, seq int, values ...string) api.Batch {
	b := sent(pid, epoch, seq, values...)
	b.Txn = true
	return b
}

func marker(pid uint64, epoch int, commit bool) api.Batch {
	return api.Batch{Pid: pid, PEpoch: epoch, Txn: true, Control: true, Commit: commit}
}

// at is a batch at an offset, of a leader's epoch.
func at(base, epoch int, b api.Batch) api.Batch {
	b.Base, b.Epoch = base, epoch
	return b
}

// row are batches of one record each, one behind the other, each of its epoch.
func row(epochs ...int) []api.Batch {
	var list []api.Batch
	for i, epoch := range epochs {
		list = append(list, at(i, epoch, plain(fmt.Sprint("v", i))))
	}
	return list
}

// answer is one of the partition 0, that doesn't diverge.
func answer(epoch, high int, list ...api.Batch) api.FetchReply {
	return api.FetchReply{Epoch: epoch, High: high, Batches: list}
}

// diverging is one to a follower that asked from an offset, with its last epoch.
func diverging(epoch, endEpoch, end, offset, last int) api.FetchReply {
	return api.FetchReply{Epoch: epoch, Diverges: true, EndEpoch: endEpoch, End: end, Offset: offset, LastEpoch: last}
}

// asking is what a node asks of the partition 0.
func asking(epoch, node, offset, last int) api.FetchReq {
	return api.FetchReq{Epoch: epoch, Node: node, Offset: offset, LastEpoch: last}
}

// asks lets a node ask a leader from an offset, as one that has the same log, which is of one epoch.
func asks(t *testing.T, r *Replica, node, offset int) {
	t.Helper()
	epoch, _ := r.Role()
	a := r.Fetch(asking(epoch, node, offset, epoch))
	if a.E != api.OK || a.Diverges {
		t.Fatalf("Fetch by %d from %d = %+v", node, offset, a)
	}
}

// laid lets a leader lay batches, and tells the last one's offset.
func laid(t *testing.T, r *Replica, list ...api.Batch) int {
	t.Helper()
	var base int
	for _, b := range list {
		var e api.Errno
		if base, e = r.Produce(b); e != api.OK {
			t.Fatalf("Produce(%+v) = %d, %d", b, base, e)
		}
	}
	return base
}

// pass lets a follower ask, and take the answer.
func pass(t *testing.T, from, to *Replica) api.FetchReply {
	t.Helper()
	q, ok := to.Need()
	if !ok {
		t.Fatal("Need = false")
	}
	a := from.Fetch(q)
	wantErrno(t, fmt.Sprintf("Accept(%+v)", a), to.Accept(a), api.OK)
	return a
}

func wantErrno(t *testing.T, what string, got, want api.Errno) {
	t.Helper()
	if got != want {
		t.Errorf("%s = %d, want %d", what, got, want)
	}
}

// same holds two things against each other by their texts, in which a nil list and an empty one are one.
func same(t *testing.T, what string, got, want any) {
	t.Helper()
	if a, b := fmt.Sprintf("%+v", got), fmt.Sprintf("%+v", want); a != b {
		t.Errorf("%s = %s\nwant %s", what, a, b)
	}
}

func wantProduce(t *testing.T, what string, r *Replica, b api.Batch, base int, e api.Errno) {
	t.Helper()
	if gotBase, gotE := r.Produce(b); gotBase != base || gotE != e {
		t.Errorf("%s: Produce(%+v) = %d, %d, want %d, %d", what, b, gotBase, gotE, base, e)
	}
}

func wantMarks(t *testing.T, what string, r *Replica, start, end, high, stable int) {
	t.Helper()
	a, b, c, d := r.Marks()
	same(t, what+": Marks", []int{a, b, c, d}, []int{start, end, high, stable})
	same(t, what+": Stable", r.Stable(), stable)
}

func wantHigh(t *testing.T, what string, r *Replica, high int) {
	t.Helper()
	if _, _, got, _ := r.Marks(); got != high {
		t.Errorf("%s: the high watermark is %d, want %d", what, got, high)
	}
}

func wantWant(t *testing.T, what string, r *Replica, replicas, list []int, differs bool) {
	t.Helper()
	got, ok := r.Want(replicas)
	same(t, fmt.Sprintf("%s: Want(%d)", what, replicas), fmt.Sprint(got, ok), fmt.Sprint(list, differs))
}

func wantRole(t *testing.T, what string, r *Replica, epoch int, leads bool) {
	t.Helper()
	if a, b := r.Role(); a != epoch || b != leads {
		t.Errorf("%s: Role = %d, %v, want %d, %v", what, a, b, epoch, leads)
	}
}

// everybody are the numbers that nodes may have.
func everybody() []int {
	return []int{0, 1, 2, 3, 4}
}

// outside are numbers that name none of n.
func outside(n int) []int {
	return []int{-1, n, n + 1, math.MinInt, math.MaxInt}
}

// seen is what can be asked of a replica without changing it.
type seen interface {
	Role() (int, bool)
	Marks() (int, int, int, int)
	Stable() int
	Ready() bool
	Need() (api.FetchReq, bool)
	Log() []api.Batch
	Want(replicas []int) ([]int, bool)
	Committed(from, n int) ([]api.Batch, []api.Abort, int)
}

// view is all that can be seen of a replica.
func view(r seen) string {
	epoch, leads := r.Role()
	start, end, high, stable := r.Marks()
	text := fmt.Sprintln(epoch, leads, start, end, high, stable, r.Stable(), r.Ready())
	q, ok := r.Need()
	text += fmt.Sprintf("%+v %v\n%+v\n", q, ok, r.Log())
	for _, replicas := range [][]int{nil, {0, 1}, {2, 3, 4}, everybody()} {
		text += fmt.Sprintln(r.Want(replicas))
	}
	for _, from := range []int{-1, 0, 1, 2, 5, end} {
		for _, n := range []int{-1, 0, 1, 3, 100} {
			text += fmt.Sprintln(r.Committed(from, n))
		}
	}
	return text
}

// wantKept: a call has changed nothing of a replica.
func wantKept(t *testing.T, what string, r *Replica, call func()) {
	t.Helper()
	before := view(r)
	call()
	if after := view(r); after != before {
		t.Errorf("%s has changed\n%s\nto\n%s", what, before, after)
	}
}
