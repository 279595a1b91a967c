package raft

import (
	"bytes"

	"penstock/api"
)

// ownHard is the same in memory that nobody else has; so are the others.
func ownHard(h api.Hard) api.Hard {
	h.Snap = bytes.Clone(h.Snap)
	h.Log = ownEntries(h.Log)
	return h
}

func ownEntries(list []api.Entry) []api.Entry {
	var own []api.Entry
	for _, e := range list {
		own = append(own, ownEntry(e))
	}
	return own
}

func ownEntry(e api.Entry) api.Entry {
	e.Data = bytes.Clone(e.Data)
	return e
}
