// Package replica is layer 14: see shared/doc/14-replica.md.
package replica

import (
	"penstock/api"
	"penstock/disk"
	"penstock/epochs"
	"penstock/prod"
	"penstock/seglog"
)

const (
	none     = -1               // no epoch, and no offset
	maxParts = api.MaxParts + 2 // with the transactions' and the groups'
)

// Replica is a partition on a node.
type Replica struct {
	part, me int
	log      *seglog.Log
	known    *prod.Table   // by all batches of the log
	begins   *epochs.Cache // by all batches of the log
	last     int           // the epoch of the last batch
	high     int           // the high watermark
	settled  *prod.Table   // by the batches that end up to the high watermark: the log is never cut there, so it only grows
	passed   int           // where the last one of these ends
	epoch    int
	leads    bool
	office   // of one that leads
}

// Open opens the partition of a number on a node's disk: what its log holds is known; it leads nothing, and follows nobody.
func Open(d *disk.Disk, name string, part, me int) (*Replica, api.Errno) {
	if d == nil {
		return nil, api.ErrState
	}
	if part < 0 || part >= maxParts || !isNode(me) {
		return nil, api.ErrArg
	}
	log, e := seglog.Open(d, name)
	if e != api.OK {
		return nil, e
	}
	// What the log says from now on must not be lost by the next break.
	if e := log.Flush(); e != api.OK {
		return nil, e
	}
	start := log.Start()
	r := &Replica{part: part, me: me, log: log, high: start, settled: prod.New(), passed: start, epoch: none}
	r.learn()
	return r, api.OK
}

// Lead lets the replica lead from an epoch on, with these in sync.
func (r *Replica) Lead(epoch int, isr []int) api.Errno {
	if e := r.enter(epoch); e != api.OK {
		return e
	}
	r.leads = true
	r.office = office{isr: nodesOf(isr), beginning: r.log.End()}
	r.rise()
	return api.OK
}

// Follow lets the replica follow from an epoch on.
func (r *Replica) Follow(epoch int) api.Errno {
	if e := r.enter(epoch); e != api.OK {
		return e
	}
	r.leads = false
	r.office = office{}
	return api.OK
}

// Sync says who is in sync in this epoch.
func (r *Replica) Sync(epoch int, isr []int) api.Errno {
	if r.unopened() {
		return api.ErrState
	}
	if !r.leads || epoch != r.epoch {
		return api.ErrLeader
	}
	r.isr, r.askedFor = nodesOf(isr), nodes{}
	r.rise()
	return api.OK
}

// Role answers the epoch (-1: none yet), and whether the replica leads.
func (r *Replica) Role() (int, bool) {
	if r.unopened() {
		return 0, false
	}
	return r.epoch, r.leads
}

// Marks answers where the log begins, where it ends, the high watermark, and up to where no transaction is open.
func (r *Replica) Marks() (int, int, int, int) {
	if r.unopened() {
		return 0, 0, 0, 0
	}
	return r.log.Start(), r.log.End(), r.high, r.Stable()
}

// unopened tells whether that isn't what Open has answered.
func (r *Replica) unopened() bool {
	return r == nil || r.log == nil
}

// leading tells whether it has been opened, and leads.
func (r *Replica) leading() bool {
	return !r.unopened() && r.leads
}

// enter goes on to an epoch, that must be a new one.
func (r *Replica) enter(epoch int) api.Errno {
	if r.unopened() {
		return api.ErrState
	}
	if epoch <= r.epoch {
		return api.ErrLeader
	}
	r.epoch = epoch
	return api.OK
}
