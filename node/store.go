package node

import (
	"slices"

	"penstock/api"
	"penstock/codec"
	"penstock/disk"
	"penstock/wal"
)

const (
	fileName     = "meta"
	mostPayloads = 8192 // from which on the file is written anew, without what holds no more
)

// The kinds of the file's payloads, of which each says something anew.
const (
	ofStarts = iota + 1 // how often the node was started
	ofVote              // the term, and the vote in it
	ofBase              // the snapshot; there are no entries behind it yet
	ofEntry             // an entry; those that stood at its number and behind it are gone
)

// store is what lasts of a node beside the logs of its partitions.
type store struct {
	file   *wal.Wal
	starts int
	hard   api.Hard // as it stands in the file
}

// openStore takes up what a disk has.
func openStore(d *disk.Disk) (*store, api.Errno) {
	file, payloads, e := wal.Open(d, fileName)
	if e != api.OK {
		return nil, e
	}
	s := &store{file: file, hard: api.Hard{Vote: nobody}}
	for _, p := range payloads {
		if e := s.learn(p); e != api.OK {
			return nil, e
		}
	}
	return s, api.OK
}

// learn takes up a payload of the file.
func (s *store) learn(payload []byte) api.Errno {
	r := codec.NewReader(payload)
	switch r.Uint() {
	case ofStarts:
		s.starts = r.Int()
	case ofVote:
		s.hard.Term, s.hard.Vote = r.Int(), r.Int()
	case ofBase:
		s.hard.Base, s.hard.BaseTerm, s.hard.Snap, s.hard.Log = r.Int(), r.Int(), r.Bytes(), nil
	case ofEntry:
		far := r.Int() - s.hard.Base
		if far < 1 || far > len(s.hard.Log)+1 {
			return api.ErrForm
		}
		s.hard.Log = append(s.hard.Log[:far-1], api.Entry{Term: r.Int(), Data: r.Bytes()})
	default:
		return api.ErrForm
	}
	return r.End()
}

// start counts one start more. It lasts ahead of anybody's being told of it, so that no start is told twice.
func (s *store) start(times int) api.Errno {
	s.starts = times
	return s.rewrite(s.hard)
}

// save keeps what the quorum's node wants kept.
func (s *store) save(h api.Hard) api.Errno {
	first := s.firstNew(h)
	// An entry lets those go that stood there, but where none comes nothing does.
	shorter := first == len(h.Log) && first < len(s.hard.Log)
	if shorter || h.Base != s.hard.Base || s.file.Count()+len(h.Log)-first >= mostPayloads {
		return s.rewrite(h)
	}
	list := entryTexts(h, first)
	if h.Term != s.hard.Term || h.Vote != s.hard.Vote {
		// Ahead of the entries: if the disk breaks between them, none is of a term that isn't known.
		list = slices.Insert(list, 0, voteText(h))
	}
	for _, p := range list {
		if e := s.file.Append(p); e != api.OK {
			return e
		}
	}
	s.hard = h
	return s.file.Sync()
}

// firstNew is the place in the log of the first entry that the file hasn't. Of one term there is one entry at a number at most, so that terms tell.
func (s *store) firstNew(h api.Hard) int {
	i := 0
	for i < len(h.Log) && i < len(s.hard.Log) && h.Log[i].Term == s.hard.Log[i].Term {
		i++
	}
	return i
}

// rewrite puts all that is to be kept in the place of the file.
func (s *store) rewrite(h api.Hard) api.Errno {
	list := [][]byte{
		text(func(w *codec.Writer) { w.Uint(ofStarts); w.Int(s.starts) }),
		voteText(h),
		text(func(w *codec.Writer) { w.Uint(ofBase); w.Int(h.Base); w.Int(h.BaseTerm); w.Bytes(h.Snap) }),
	}
	s.hard = h
	return s.file.Rewrite(append(list, entryTexts(h, 0)...))
}

func voteText(h api.Hard) []byte {
	return text(func(w *codec.Writer) { w.Uint(ofVote); w.Int(h.Term); w.Int(h.Vote) })
}

// entryTexts are the entries, from a place in the log on.
func entryTexts(h api.Hard, first int) [][]byte {
	var list [][]byte
	for i, x := range h.Log[first:] {
		number := h.Base + first + i + 1
		list = append(list, text(func(w *codec.Writer) { w.Uint(ofEntry); w.Int(number); w.Int(x.Term); w.Bytes(x.Data) }))
	}
	return list
}

// text is what is laid. It is never too long: the snapshot is an image, and an entry a command.
func text(lay func(w *codec.Writer)) []byte {
	w := codec.NewWriter()
	lay(w)
	b, _ := w.Out()
	return b
}
