package group

import (
	"slices"

	"penstock/api"
)

// Join decides what is to be written when a member comes (or, stay false, goes); OK without a record: it is (isn't) one.
func (s *State) Join(n, member int, stay bool) (api.GrRec, bool, api.Errno) {
	g, e := s.named(n)
	if e == api.OK && member < 0 {
		e = api.ErrArg
	}
	if e != api.OK {
		return api.GrRec{}, false, e
	}
	at, in := slices.BinarySearch(g.members, member)
	if in == stay {
		return api.GrRec{}, false, api.OK
	}
	if stay && len(g.members) == api.MaxMembers {
		return api.GrRec{}, false, api.ErrFull
	}
	list := slices.Clone(g.members)
	if stay {
		list = slices.Insert(list, at, member)
	} else {
		list = slices.Delete(list, at, at+1)
	}
	return api.GrRec{Kind: api.GGen, Group: n, Gen: g.gen + 1, Members: list}, true, api.OK
}

// Owner is the member to which a partition falls; -1: there is none.
func Owner(members []int, part int) int {
	if len(members) == 0 || part < 0 {
		return nobody
	}
	return members[part%len(members)]
}

// Commit decides what is to be written when a member of a generation says how far the group has come.
func (s *State) Commit(n, member, gen, part, offset int) (api.GrRec, api.Errno) {
	g, e := s.named(n)
	if e != api.OK {
		return api.GrRec{}, e
	}
	// A member below 0 has to be refused here: Owner would take it for the nobody to which an empty group's partitions fall.
	if member < 0 || gen < 0 {
		return api.GrRec{}, api.ErrArg
	}
	r := api.GrRec{Kind: api.GOff, Group: n, Part: part, Offset: offset}
	if !isRecord(r) {
		return api.GrRec{}, api.ErrArg
	}
	if gen != g.gen || Owner(g.members, part) != member {
		return api.GrRec{}, api.ErrGen
	}
	return r, api.OK
}
