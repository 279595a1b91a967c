package txn

import (
	"slices"

	"penstock/api"
)

const spent = api.MaxEpoch - 1 // from this epoch on a producer begins no transaction, so that its markers' epoch is one that there is, too

// Init decides what is to be written when a client of a time asks for its producer; pid is a number that is free (0: none is at hand). OK without a record: it has it.
func (s *State) Init(n, inc int, pid uint64) (api.TxRec, bool, api.Errno) {
	x, e := s.named(n)
	switch {
	case e != api.OK:
		return none(e)
	case x.State == api.TxNone:
		return begin(n, inc, pid)
	case inc < x.Inc:
		return none(api.ErrFenced)
	case x.State == api.TxPrepared:
		return none(api.ErrBusy)
	case inc == x.Inc:
		return none(api.OK)
	case x.State == api.TxOngoing:
		// What the older incarnation has left open is aborted first; who asks again behind that gets its producer.
		return api.TxRec{Kind: api.TPrep, Tx: n}, true, api.ErrBusy
	case x.Epoch+ahead >= spent:
		return begin(n, inc, pid)
	}
	return api.TxRec{Kind: api.TInit, Tx: n, Inc: inc, Pid: x.Pid, Epoch: x.Epoch + ahead}, true, api.OK
}

// Add decides what is to be written when a producer adds a partition to its transaction.
func (s *State) Add(n int, pid uint64, epoch, part int) (api.TxRec, bool, api.Errno) {
	x, e := s.named(n)
	switch {
	case e != api.OK:
		return none(e)
	case !isPart(part):
		return none(api.ErrArg)
	case x.State == api.TxNone || x.Pid != pid || x.Epoch != epoch:
		return none(api.ErrFenced)
	case x.State == api.TxPrepared:
		return none(api.ErrBusy)
	case epoch >= spent:
		return none(api.ErrSpent)
	case slices.Contains(x.Parts, part):
		return none(api.OK)
	}
	return api.TxRec{Kind: api.TAdd, Tx: n, Parts: []int{part}}, true, api.OK
}

// End decides what is to be written when a producer ends its transaction. OK without a record: it has ended so.
func (s *State) End(n int, pid uint64, epoch int, commit bool) (api.TxRec, bool, api.Errno) {
	x, e := s.named(n)
	switch {
	case e != api.OK:
		return none(e)
	case x.State == api.TxNone || x.Pid != pid:
		return none(api.ErrFenced)
	case epoch == x.Last && pid == x.LastPid:
		return none(decided(x, commit))
	case x.Epoch != epoch:
		return none(api.ErrFenced)
	case x.State != api.TxOngoing:
		return none(api.ErrTxn)
	}
	return api.TxRec{Kind: api.TPrep, Tx: n, Commit: commit}, true, api.OK
}

// decided is what is answered to who asks for the end of a transaction whose end stands already.
func decided(x api.Tx, commit bool) api.Errno {
	if commit != x.Commit {
		return api.ErrTxn
	}
	if x.State == api.TxPrepared {
		return api.ErrBusy
	}
	return api.OK
}

// begin gives a name a producer that has had no epoch yet.
func begin(n, inc int, pid uint64) (api.TxRec, bool, api.Errno) {
	if pid == 0 {
		return none(api.ErrBusy)
	}
	return api.TxRec{Kind: api.TInit, Tx: n, Inc: inc, Pid: pid}, true, api.OK
}

// none is an answer without a record.
func none(e api.Errno) (api.TxRec, bool, api.Errno) {
	return api.TxRec{}, false, e
}

// named is what is known of a name that there is, its Parts not to be handed out.
func (s *State) named(n int) (api.Tx, api.Errno) {
	if s == nil {
		return api.Tx{}, api.ErrState
	}
	if !isName(n) {
		return api.Tx{}, api.ErrArg
	}
	return s.at(n), api.OK
}
