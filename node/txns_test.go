package node

import (
	"reflect"
	"testing"

	"penstock/api"
	"penstock/group"
	"penstock/txn"
)

// txLog is a log of these records, one in a batch.
func txLog(t *testing.T, list ...api.TxRec) []api.Batch {
	t.Helper()
	var log []api.Batch
	for i, r := range list {
		text, e := txn.Encode(r)
		if e != api.OK {
			t.Fatalf("Encode(%+v) = %d", r, e)
		}
		log = append(log, at(i, 1, records(string(text))))
	}
	return log
}

// TestTxnsBeginAnew: nothing is left of what a leader knew before, neither when it leads no more nor when it leads again.
func TestTxnsBeginAnew(t *testing.T) {
	first := txLog(t, api.TxRec{Kind: api.TInit, Tx: 3, Pid: 4}, api.TxRec{Kind: api.TAdd, Tx: 3, Parts: []int{1}})
	second := txLog(t, api.TxRec{Kind: api.TInit, Tx: 5, Pid: 6})
	used := newTxns(one(1, 1))
	used.begin(first)
	used.marks[[2]int{3, 1}] = mark{done: true}
	used.ages[3] = 50
	used.clear()
	if fresh := newTxns(one(1, 1)); !reflect.DeepEqual(used, fresh) {
		t.Errorf("%+v, want %+v", used, fresh)
	}
	used.begin(first)
	used.marks[[2]int{3, 1}] = mark{done: true}
	used.ages[3] = 50
	used.begin(second)
	fresh := newTxns(one(1, 1))
	fresh.begin(second)
	if !reflect.DeepEqual(used, fresh) {
		t.Errorf("%+v, want %+v", used, fresh)
	}
}

// TestGroupsBeginAnew: likewise.
func TestGroupsBeginAnew(t *testing.T) {
	text, _ := group.Encode(api.GrRec{Kind: api.GGen, Group: 1, Gen: 1, Members: []int{2}})
	used := newGroups()
	used.begin([]api.Batch{records(string(text))})
	used.ages[[2]int{1, 2}] = 9
	used.clear()
	if fresh := newGroups(); !reflect.DeepEqual(used, fresh) {
		t.Errorf("%+v, want %+v", used, fresh)
	}
	used.begin([]api.Batch{records(string(text))})
	used.ages[[2]int{1, 2}] = 9
	used.begin(nil)
	if list := used.state.Groups(); len(list) > 0 || len(used.ages) > 0 {
		t.Errorf("it knows %v, %v", list, used.ages)
	}
}

// TestEnding: a transaction is to be ended when that is decided, and what is decided is committed; of one producer or of the next one.
func TestEnding(t *testing.T) {
	log := txLog(t,
		api.TxRec{Kind: api.TInit, Tx: 0, Pid: 1},
		api.TxRec{Kind: api.TAdd, Tx: 0, Parts: []int{0}},
		api.TxRec{Kind: api.TPrep, Tx: 0, Commit: true},
		api.TxRec{Kind: api.TDone, Tx: 0},
		api.TxRec{Kind: api.TAdd, Tx: 0, Parts: []int{0}},
		api.TxRec{Kind: api.TPrep, Tx: 0},
		api.TxRec{Kind: api.TDone, Tx: 0},
		api.TxRec{Kind: api.TInit, Tx: 0, Inc: 1, Pid: 2, Epoch: 2},
		api.TxRec{Kind: api.TAdd, Tx: 0, Parts: []int{0}},
		api.TxRec{Kind: api.TPrep, Tx: 0, Commit: true},
	)
	for end := range len(log) + 1 {
		for high := range end + 1 {
			x := newTxns(one(1, 1))
			x.begin(log[:end])
			x.hold(high)
			if _, ends := x.ending(0); ends != (high == end && (end == 3 || end == 6 || end == 10)) {
				t.Errorf("of %d records, up to %d: it is to be ended: %v", end, high, ends)
			}
		}
	}
}
