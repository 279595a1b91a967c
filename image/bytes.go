package image

import (
	"penstock/api"
	"penstock/codec"
	"penstock/gate"
)

// Bytes writes the image down.
func (m *Image) Bytes() ([]byte, api.Errno) {
	if m == nil {
		return nil, api.ErrState
	}
	w := codec.NewWriter()
	w.Uint(uint64(len(m.nodes)))
	for _, x := range m.nodes {
		w.Flag(x.there)
		w.Int(x.time)
		w.Uint(x.block)
	}
	w.Uint(uint64(len(m.parts)))
	for _, p := range m.parts {
		w.Int(p.Leader)
		w.Int(p.Epoch)
		w.Int(p.Version)
		w.Ints(p.Isr)
		w.Ints(p.Replicas)
		w.Ints(p.Target)
	}
	next, _ := m.pids.Left()
	w.Uint(next)
	w.Int(m.count)
	return w.Out()
}

// Read is the image that was written down.
func Read(text []byte) (*Image, api.Errno) {
	m := &Image{}
	r := codec.NewReader(text)
	for range countUpTo(r.Uint(), api.MaxNodes) {
		m.nodes = append(m.nodes, node{there: r.Flag(), time: r.Int(), block: r.Uint()})
	}
	for range countUpTo(r.Uint(), maxParts) {
		m.parts = append(m.parts, readPart(r))
	}
	next := r.Uint()
	m.count = r.Int()
	if e := r.End(); e != api.OK {
		return nil, e
	}
	if next < firstPid || next > pidLimit || !m.isWhole() {
		return nil, api.ErrForm
	}
	m.pids = gate.New(next, pidLimit)
	return m, api.OK
}

// countUpTo is how many are to be read: none, if there would be too many, so that a false count doesn't cost much.
func countUpTo(n, most uint64) uint64 {
	if n > most {
		return 0
	}
	return n
}

func readPart(r *codec.Reader) api.Part {
	return api.Part{
		Leader:   r.Int(),
		Epoch:    r.Int(),
		Version:  r.Int(),
		Isr:      r.Ints(),
		Replicas: r.Ints(),
		Target:   r.Ints(),
	}
}

// isWhole tells whether nodes, partitions and the count are such as may have been written.
func (m *Image) isWhole() bool {
	if len(m.nodes) == 0 || len(m.parts) == 0 || m.count < 0 {
		return false
	}
	for _, p := range m.parts {
		if !m.isWholePart(p) {
			return false
		}
	}
	return true
}

func (m *Image) isWholePart(p api.Part) bool {
	return (p.Leader == nobody || m.isNode(p.Leader)) && p.Epoch >= 0 && p.Version >= 0 &&
		m.isList(p.Isr) && m.isList(p.Replicas) && (len(p.Target) == 0 || m.isList(p.Target))
}
