// Package replica is layer 14: see shared/doc/14-replica.md.
package replica

import (
	"penstock/api"
	"penstock/disk"
)

// Replica is a partition on a node.
type Replica struct{}

// Open opens the partition of a number on a node's disk: what its log holds is known; it leads nothing, and follows nobody.
func Open(d *disk.Disk, name string, part, me int) (*Replica, api.Errno) {
	return nil, 0
}

// Lead lets the replica lead from an epoch on, with these in sync.
func (r *Replica) Lead(epoch int, isr []int) api.Errno {
	return 0
}

// Follow lets the replica follow from an epoch on.
func (r *Replica) Follow(epoch int) api.Errno {
	return 0
}

// Sync says who is in sync in this epoch.
func (r *Replica) Sync(epoch int, isr []int) api.Errno {
	return 0
}

// Produce lays a batch behind the leader's log, if it may come next; one of the last ones again isn't laid: its offset is told. A marker of a producer that has gone on is none.
func (r *Replica) Produce(b api.Batch) (int, api.Errno) {
	return 0, 0
}

// Need is what a follower asks.
func (r *Replica) Need() (api.FetchReq, bool) {
	return api.FetchReq{}, false
}

// Fetch answers a follower.
func (r *Replica) Fetch(q api.FetchReq) api.FetchReply {
	return api.FetchReply{}
}

// Accept takes a leader's answer: batches are laid behind the log; or what diverges is taken away.
func (r *Replica) Accept(a api.FetchReply) api.Errno {
	return 0
}

// Tick lets the leader's clock go on.
func (r *Replica) Tick() {}

// Want is who should be in sync, if it is not who is: those who have come to the high watermark in this epoch come in, of replicas; those who are slow go.
func (r *Replica) Want(replicas []int) ([]int, bool) {
	return nil, false
}

// Asked says whom the leader has asked to be in sync: they count from now on, until it is told who is.
func (r *Replica) Asked(list []int) {}

// Marks answers where the log begins, where it ends, the high watermark, and up to where no transaction is open.
func (r *Replica) Marks() (int, int, int, int) {
	return 0, 0, 0, 0
}

// Stable answers up to where, below the high watermark, no transaction is open.
func (r *Replica) Stable() int {
	return 0
}

// Committed answers at most n batches from an offset on, that lie below where a transaction is open, and the transactions among them that were aborted.
func (r *Replica) Committed(from, n int) ([]api.Batch, []api.Abort, int) {
	return nil, nil, 0
}

// Log answers the log's batches, all of them.
func (r *Replica) Log() []api.Batch {
	return nil
}

// Ready tells whether the replica leads, and all that stood in its log when it began to is below the high watermark.
func (r *Replica) Ready() bool {
	return false
}

// Role answers the epoch (-1: none yet), and whether the replica leads.
func (r *Replica) Role() (int, bool) {
	return 0, false
}
