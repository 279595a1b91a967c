package group

import (
	"fmt"
	"math/rand"
	"slices"
	"testing"

	"penstock/api"
)

// model is a state by the chapter's words, in the plainest way: all that was applied, gone through anew at each question.
type model struct{ log []api.Batch }

// fateOf is where the batch at that place of the log is ended, and whether by Commit; -1: it waits.
func (m *model) fateOf(at int) (int, bool) {
	b := m.log[at]
	if !b.Txn {
		return at, true
	}
	for i := at + 1; i < len(m.log); i++ {
		if m.log[i].Control && m.log[i].Pid == b.Pid {
			return i, m.log[i].Commit
		}
	}
	return -1, false
}

func (m *model) recordsAt(at int) []api.GrRec {
	var list []api.GrRec
	for _, v := range m.log[at].Values {
		if r, e := Decode(v); e == api.OK && !m.log[at].Control {
			list = append(list, r)
		}
	}
	return list
}

// held are the records that hold, in the order in which they came to.
func (m *model) held() []api.GrRec {
	var list []api.GrRec
	for now := range m.log {
		for at := range now + 1 {
			if m.log[at].Control {
				continue
			}
			if end, commit := m.fateOf(at); end == now && commit {
				list = append(list, m.recordsAt(at)...)
			}
		}
	}
	return list
}

func (m *model) team(n int) (int, []int) {
	var last api.GrRec
	for _, r := range m.held() {
		if r.Kind == api.GGen && r.Group == n && r.Gen > last.Gen {
			last = r
		}
	}
	return last.Gen, last.Members
}

func (m *model) groups() []int {
	var list []int
	for n := range api.MaxTxs {
		if slices.ContainsFunc(m.held(), func(r api.GrRec) bool { return r.Group == n }) {
			list = append(list, n)
		}
	}
	return list
}

func (m *model) offset(n, part int) (int, api.Errno) {
	if n < 0 || n > 7 {
		return 0, api.ErrArg
	}
	is := func(r api.GrRec) bool { return r.Kind == api.GOff && r.Group == n && r.Part == part }
	for at, b := range m.log {
		if end, _ := m.fateOf(at); end < 0 && !b.Control && slices.ContainsFunc(m.recordsAt(at), is) {
			return 0, api.ErrBusy
		}
	}
	most := 0
	for _, r := range m.held() {
		if is(r) {
			most = max(most, r.Offset)
		}
	}
	return most, api.OK
}

func (m *model) join(n, member int, stay bool) answer {
	if n < 0 || n > 7 || member < 0 {
		return without(api.ErrArg)
	}
	gen, members := m.team(n)
	in := slices.Contains(members, member)
	if stay && in || !stay && !in {
		return without(api.OK)
	}
	if stay && len(members)+1 == 9 {
		return without(api.ErrFull)
	}
	var list []int
	for _, x := range append([]int{member}, members...) {
		if stay || x != member {
			list = append(list, x)
		}
	}
	slices.Sort(list)
	return record(genRec(n, gen+1, list...))
}

func (m *model) commit(n, member, gen, part, offset int) answer {
	if n < 0 || n > 7 || member < 0 || gen < 0 || part < 0 || part > 3 || offset < 0 {
		return without(api.ErrArg)
	}
	now, members := m.team(n)
	if gen != now || len(members) == 0 || members[part%len(members)] != member {
		return without(api.ErrGen)
	}
	return record(offRec(n, part, offset))
}

// maker draws batches and calls.
type maker struct {
	*rand.Rand
	m *model
}

// group is mostly one of a few, and number mostly one from 0 on.
func (d maker) group() int {
	if d.Intn(30) == 0 {
		return d.Intn(14) - 3
	}
	return d.Intn(2)
}

func (d maker) number(n int) int {
	if d.Intn(30) == 0 {
		return -1 - d.Intn(2)
	}
	return d.Intn(n)
}

// any is a record that nobody has answered.
func (d maker) any() api.GrRec {
	r := api.GrRec{Kind: 1 + d.number(2), Group: d.group(), Part: d.number(4), Offset: d.number(9)}
	gen, _ := d.m.team(r.Group)
	r.Gen = gen + d.Intn(4) - 1
	many := 1 + d.Intn(9)
	for member := range 10 {
		if d.Intn(10) < many {
			r.Members = append(r.Members, member)
		}
	}
	return r
}

// batch is one with these records and some that nobody has answered, or a marker.
func (d maker) batch(answered []api.GrRec) api.Batch {
	b := api.Batch{Pid: uint64(d.Intn(4)), PEpoch: d.Intn(3), Txn: d.Intn(2) == 0, Commit: d.Intn(2) == 0, Control: d.Intn(3) == 0}
	b.Values = values(answered...)
	for range d.Intn(3) {
		b.Values = append(b.Values, laid(d.any()))
	}
	if d.Intn(20) == 0 {
		b.Values = append(b.Values, []byte{byte(d.Intn(256))})
	}
	return b
}

// TestDrawn: batches are applied, with records that were answered and others, and each call answers as the model; so P16.5's generations and offsets are looked at, too.
func TestDrawn(t *testing.T) {
	d := maker{Rand: rand.New(rand.NewSource(16))}
	seen := map[api.Errno]int{}
	for range 500 {
		s := New()
		d.m = &model{}
		gens, offsets := map[int]int{}, map[[2]int]int{}
		for range 40 {
			answered := wantSame(t, d, s, seen)
			b := d.batch(answered)
			s.Apply(b)
			d.m.log = append(d.m.log, b)
			wantNoFall(t, s, gens, offsets)
			if t.Failed() {
				t.Fatalf("behind %+v", d.m.log)
			}
		}
	}
	for _, e := range []api.Errno{api.OK, api.ErrArg, api.ErrFull, api.ErrGen, api.ErrBusy} {
		if seen[e] < 100 {
			t.Errorf("the error %d was seen %d times only", e, seen[e])
		}
	}
}

// wantSame asks everything of a state and its model, and answers what is to be written.
func wantSame(t *testing.T, d maker, s *State, seen map[api.Errno]int) []api.GrRec {
	t.Helper()
	m := d.m
	if got, want := fmt.Sprint(s.Groups()), fmt.Sprint(m.groups()); got != want {
		t.Errorf("Groups() = %s, want %s", got, want)
	}
	n, part := d.group(), d.number(5)
	gen, members := m.team(n)
	wantTeam(t, "drawn", s, n, gen, members...)
	offset, e := m.offset(n, part)
	seen[e]++
	wantOffset(t, "drawn", s, n, part, offset, e)
	var answered []api.GrRec
	keep := func(what string, got, want answer) {
		t.Helper()
		seen[want.e]++
		if !got.same(want) {
			t.Errorf("%s = %+v, want %+v", what, got, want)
		}
		if got.ok && d.Intn(2) == 0 {
			answered = append(answered, got.r)
		}
	}
	member, stay := d.number(12), d.Intn(4) > 0
	keep(fmt.Sprintf("Join(%d, %d, %v)", n, member, stay), told(s.Join(n, member, stay)), m.join(n, member, stay))
	if d.Intn(2) == 0 {
		member, gen = Owner(members, part), gen+d.Intn(8)/7
	}
	to := d.number(20)
	keep(fmt.Sprintf("Commit(%d, %d, %d, %d, %d)", n, member, gen, part, to),
		toldByCommit(s.Commit(n, member, gen, part, to)), m.commit(n, member, gen, part, to))
	return answered
}

// wantNoFall: generations and offsets are where they were, or above.
func wantNoFall(t *testing.T, s *State, gens map[int]int, offsets map[[2]int]int) {
	t.Helper()
	for n := range api.MaxTxs {
		gen, _ := s.Team(n)
		if gen < gens[n] {
			t.Errorf("the generation of %d has fallen from %d to %d", n, gens[n], gen)
		}
		gens[n] = gen
		for part := range api.MaxParts {
			at := [2]int{n, part}
			offset, e := s.Offset(n, part)
			if e == api.OK && offset < offsets[at] {
				t.Errorf("the offset of %d has fallen from %d to %d", at, offsets[at], offset)
			}
			offsets[at] = max(offsets[at], offset)
		}
	}
}

// TestOneOwner is P16.5: of each generation that members have made, each partition falls to one of them, who alone may commit.
func TestOneOwner(t *testing.T) {
	draw := rand.New(rand.NewSource(165))
	for range 100 {
		s := New()
		for range 60 {
			r, ok, _ := s.Join(0, draw.Intn(10), draw.Intn(3) > 0)
			if !ok {
				continue
			}
			if before, _ := s.Team(0); r.Gen != before+1 {
				t.Fatalf("behind the generation %d comes %d", before, r.Gen)
			}
			s.Apply(plain(r))
			gen, members := s.Team(0)
			for part := range api.MaxParts {
				owners := 0
				for member := range 10 {
					if _, e := s.Commit(0, member, gen, part, 1); e == api.OK {
						owners++
					}
				}
				if want := min(1, len(members)); owners != want {
					t.Fatalf("of %d the partition %d falls to %d members", members, part, owners)
				}
			}
		}
	}
}
