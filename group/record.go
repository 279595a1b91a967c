package group

import (
	"penstock/api"
	"penstock/codec"
)

// Encode writes a record.
func Encode(r api.GrRec) ([]byte, api.Errno) {
	if !isRecord(r) {
		return nil, api.ErrArg
	}
	w := codec.NewWriter()
	w.Int(r.Kind)
	w.Int(r.Group)
	w.Int(r.Gen)
	w.Int(r.Part)
	w.Int(r.Offset)
	w.Ints(r.Members)
	return w.Out()
}

// Decode reads a record.
func Decode(text []byte) (api.GrRec, api.Errno) {
	in := codec.NewReader(text)
	r := api.GrRec{
		Kind:    in.Int(),
		Group:   in.Int(),
		Gen:     in.Int(),
		Part:    in.Int(),
		Offset:  in.Int(),
		Members: in.Ints(),
	}
	if e := in.End(); e != api.OK {
		return api.GrRec{}, e
	}
	if !isRecord(r) {
		return api.GrRec{}, api.ErrArg
	}
	return r, api.OK
}

// isRecord tells whether that is a record at all; all of it counts, whatever its kind uses.
func isRecord(r api.GrRec) bool {
	return (r.Kind == api.GGen || r.Kind == api.GOff) && isGroup(r.Group) && r.Gen >= 0 &&
		0 <= r.Part && r.Part < api.MaxParts && r.Offset >= 0 && areMembers(r.Members)
}

// isGroup tells whether there is a group of that number.
func isGroup(n int) bool {
	return 0 <= n && n < api.MaxTxs
}

// areMembers tells whether that is a list of members: not too many, rising from 0 on.
func areMembers(list []int) bool {
	last := nobody
	for _, m := range list {
		if m <= last {
			return false
		}
		last = m
	}
	return len(list) <= api.MaxMembers
}
