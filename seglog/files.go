package seglog

import (
	"math"
	"slices"
	"strconv"
	"strings"

	"penstock/api"
	"penstock/batch"
)

// file is the name of the segment's file that goes from an offset on.
func (l *Log) file(base int) string {
	number := strconv.Itoa(base)
	noughts := strings.Repeat("0", max(digits-len(number), 0))
	return l.name + dot + noughts + number
}

// bases are the offsets from which on the segments go that the disk has, rising.
func (l *Log) bases() []int {
	var list []int
files:
	for _, file := range l.disk.Names() {
		number, ok := strings.CutPrefix(file, l.name+dot)
		if !ok || len(number) < digits || len(number) > digits && number[0] == '0' {
			continue files
		}
		base := 0
		for _, r := range number {
			digit := int(r - '0')
			if digit < 0 || digit > 9 || base > (math.MaxInt-digit)/10 {
				continue files
			}
			base = 10*base + digit
		}
		list = append(list, base)
	}
	// Names have another order, where numbers have more than eight digits.
	slices.Sort(list)
	return list
}

// load takes up what the disk has of the log, and takes away what can't be of it.
func (l *Log) load() api.Errno {
	l.segments = nil
	bases := l.bases()
	for i, base := range bases {
		if i > 0 && base != l.End() {
			return l.remove(bases[i:])
		}
		whole, e := l.take(base)
		if e != api.OK {
			return e
		}
		if !whole {
			return l.remove(bases[i+1:])
		}
	}
	return api.OK
}

// take takes up a segment's batches, as long as each is the next one, and cuts off what stands behind them; it tells whether nothing did.
func (l *Log) take(base int) (bool, api.Errno) {
	file := l.file(base)
	text, e := l.disk.Read(file)
	if e != api.OK {
		return false, e
	}
	s := segment{base: base}
	for {
		b, size, e := l.decode(text[s.size():])
		if e != api.OK || b.Base != s.end() {
			break
		}
		s.add(b, size)
	}
	if e := l.disk.Cut(file, s.size()); e != api.OK {
		return false, e
	}
	if _, s.lasting, e = l.disk.Size(file); e != api.OK {
		return false, e
	}
	l.segments = append(l.segments, s)
	return s.size() == len(text), api.OK
}

// decode is the batch at the front, and how many bytes its frame has.
func (l *Log) decode(text []byte) (api.Batch, int, api.Errno) {
	payload, size, e := l.frames.Decode(text)
	if e != api.OK {
		return api.Batch{}, 0, e
	}
	b, e := batch.Decode(payload)
	if e != api.OK {
		return api.Batch{}, 0, e
	}
	return b, size, api.OK
}

// mend takes the log up anew, if the disk has crashed since it was: what is laid behind a torn frame, or behind batches that are lost, is never found again.
func (l *Log) mend() api.Errno {
	if l.disk.Dead() {
		return api.ErrDead
	}
	if l.fits() {
		return api.OK
	}
	return l.load()
}

// fits tells whether the disk has what the log knows, as far as a crash can change it: the last segment, and a next one, that a Put has begun within which the disk broke.
func (l *Log) fits() bool {
	if len(l.segments) > 0 {
		s := l.last()
		size, lasting, e := l.disk.Size(l.file(s.base))
		if e != api.OK || size != s.size() || lasting != s.lasting {
			return false
		}
		if size == 0 {
			return true
		}
	}
	_, _, e := l.disk.Size(l.file(l.End()))
	return e != api.OK
}
