package replica

import "penstock/api"

const slow = 6 // ticks from which on one is held for slow

// other is what a leader knows of another node.
type other struct {
	asked   bool // in this epoch
	from    int  // the last offset from which it has asked
	counted bool // it is known when it was last fresh, or since when it is waited for
	age     int  // ticks since then
}

// ask takes note that it has asked from an offset, of a log with this end.
func (o *other) ask(from, end int) {
	// One that has never been fresh is counted from the first time on that it asks.
	if from >= end || !o.counted {
		o.counted, o.age = true, 0
	}
	o.asked, o.from = true, from
}

// reached is the offset up to which it is known to have the log.
func (o *other) reached() int {
	if !o.asked {
		return none
	}
	return o.from
}

// tick lets it be older; from the first tick on it is counted.
func (o *other) tick() {
	if o.counted {
		o.age++
	}
	o.counted = true
}

// Tick lets the leader's clock go on.
func (r *Replica) Tick() {
	if !r.leading() {
		return
	}
	for n := range r.others {
		if o := &r.others[n]; n != r.me && (o.asked || r.isr.in[n]) {
			o.tick()
		}
	}
}

// Want is who should be in sync, if it is not who is: those who have come to the high watermark in this epoch come in, of replicas; those who are slow go.
func (r *Replica) Want(replicas []int) ([]int, bool) {
	if !r.leading() {
		return nil, false
	}
	stand := nodesOf(replicas)
	var want nodes
	for n := range want.in {
		want.in[n] = n == r.me || stand.in[n] && r.keepsUp(n)
	}
	return want.list(), want != r.isr || r.askedFor != nodes{}
}

// keepsUp tells whether another node may be in sync by what it has asked, and when.
func (r *Replica) keepsUp(n int) bool {
	o := &r.others[n]
	if o.age >= slow {
		return false
	}
	return r.isr.in[n] || o.asked && o.from >= max(r.high, r.beginning)
}

// Asked says whom the leader has asked to be in sync: they count from now on, until it is told who is.
func (r *Replica) Asked(list []int) {
	if !r.leading() {
		return
	}
	r.askedFor.add(list)
}

// nodes is a set of them.
type nodes struct {
	in      [api.MaxNodes]bool
	strange bool // numbers that are no node's are of it, too
}

func nodesOf(list []int) nodes {
	var s nodes
	s.add(list)
	return s
}

func (s *nodes) add(list []int) {
	for _, n := range list {
		if isNode(n) {
			s.in[n] = true
		} else {
			s.strange = true
		}
	}
}

// list is its nodes, rising.
func (s *nodes) list() []int {
	var list []int
	for n, in := range s.in {
		if in {
			list = append(list, n)
		}
	}
	return list
}

// isNode tells whether a node may have that number.
func isNode(n int) bool {
	return 0 <= n && n < api.MaxNodes
}
