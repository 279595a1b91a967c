package txn

import (
	"penstock/api"
	"penstock/codec"
)

const maxParts = api.MaxParts + 2 // with the transactions' and the groups'

// Encode writes a record.
func Encode(r api.TxRec) ([]byte, api.Errno) {
	if !isRecord(r) {
		return nil, api.ErrArg
	}
	w := codec.NewWriter()
	w.Int(r.Kind)
	w.Int(r.Tx)
	w.Int(r.Inc)
	w.Int(r.Epoch)
	w.Uint(r.Pid)
	w.Ints(r.Parts)
	w.Flag(r.Commit)
	return w.Out()
}

// Decode reads a record.
func Decode(text []byte) (api.TxRec, api.Errno) {
	in := codec.NewReader(text)
	r := api.TxRec{
		Kind:   in.Int(),
		Tx:     in.Int(),
		Inc:    in.Int(),
		Epoch:  in.Int(),
		Pid:    in.Uint(),
		Parts:  in.Ints(),
		Commit: in.Flag(),
	}
	if e := in.End(); e != api.OK {
		return api.TxRec{}, e
	}
	if !isRecord(r) {
		return api.TxRec{}, api.ErrArg
	}
	return r, api.OK
}

// isRecord tells whether that is a record at all. Which partitions it names isn't asked.
func isRecord(r api.TxRec) bool {
	return api.TInit <= r.Kind && r.Kind <= api.TDone && isName(r.Tx) && len(r.Parts) <= maxParts
}

// isName tells whether there is a transactional name of that number.
func isName(n int) bool {
	return 0 <= n && n < api.MaxTxs
}

// isPart tells whether there may be a partition of that number.
func isPart(k int) bool {
	return 0 <= k && k < maxParts
}
