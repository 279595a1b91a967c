package seglog

import (
	"bytes"
	"encoding/binary"
	"fmt"
	"hash/crc32"
	"maps"
	"regexp"
	"slices"
	"strconv"
	"strings"
	"testing"

	"penstock/api"
	"penstock/batch"
	"penstock/disk"
)

// all is more batches than a log of these tests has.
const all = 1 << 30

func flag(b bool) byte {
	if b {
		return 1
	}
	return 0
}

// form is a batch as bytes, as the chapters tell it, whether it may be or not.
func form(b api.Batch) []byte {
	text := binary.AppendVarint(nil, int64(b.Base))
	text = binary.AppendVarint(text, int64(b.Epoch))
	text = binary.AppendUvarint(text, b.Pid)
	text = binary.AppendVarint(text, int64(b.PEpoch))
	text = binary.AppendVarint(text, int64(b.Seq))
	text = append(text, flag(b.Txn), flag(b.Control), flag(b.Commit))
	text = binary.AppendUvarint(text, uint64(len(b.Values)))
	for _, v := range b.Values {
		text = binary.AppendUvarint(text, uint64(len(v)))
		text = append(text, v...)
	}
	return text
}

func sum(payload []byte) uint32 {
	return crc32.Checksum(payload, crc32.MakeTable(crc32.Castagnoli))
}

// framed is a payload in a file.
func framed(payload []byte) string {
	text := binary.LittleEndian.AppendUint32(nil, uint32(len(payload)))
	text = binary.LittleEndian.AppendUint32(text, sum(payload))
	return string(append(text, payload...))
}

// textOf are batches in a file.
func textOf(list ...api.Batch) string {
	var text strings.Builder
	for _, b := range list {
		text.WriteString(framed(form(b)))
	}
	return text.String()
}

// of is a batch of values at an offset.
func of(base int, values ...string) api.Batch {
	b := api.Batch{Base: base}
	for _, v := range values {
		b.Values = append(b.Values, []byte(v))
	}
	return b
}

// big is a batch that fills a segment, and small one of just so many values.
func big(base int) api.Batch {
	return of(base, slices.Repeat([]string{strings.Repeat("b", 64)}, 9)...)
}

func small(base, n int) api.Batch {
	return of(base, slices.Repeat([]string{"s"}, n)...)
}

func marker(base int) api.Batch {
	return api.Batch{Base: base, Epoch: 2, Pid: 7, PEpoch: 3, Txn: true, Control: true, Commit: true}
}

// endOf is where a batch ends, by the words of layer 7.
func endOf(b api.Batch) int {
	if b.Control {
		return b.Base + 1
	}
	return b.Base + len(b.Values)
}

// file is what a disk has of a file.
type file struct {
	Text    string
	Lasting int
}

// view is all that can be seen of a log and of the disk's files.
type view struct {
	Start, End, Synced int
	Segments           []int
	Batches            []api.Batch
	Files              map[string]file
}

// same tells whether two views are one; a nil list is an empty list.
func (v view) same(w view) bool {
	return v.Start == w.Start && v.End == w.End && v.Synced == w.Synced && slices.Equal(v.Segments, w.Segments) &&
		textOf(v.Batches...) == textOf(w.Batches...) && maps.Equal(v.Files, w.Files)
}

func filesOf(t *testing.T, d *disk.Disk) map[string]file {
	t.Helper()
	files := map[string]file{}
	for _, name := range d.Names() {
		text, e1 := d.Read(name)
		_, lasting, e2 := d.Size(name)
		if e1 != api.OK || e2 != api.OK {
			t.Fatalf("Read = %d, Size = %d", e1, e2)
		}
		files[name] = file{string(text), lasting}
	}
	return files
}

// seen is the view of a log on a disk that works.
func seen(t *testing.T, l *Log, d *disk.Disk) view {
	t.Helper()
	return view{l.Start(), l.End(), l.Synced(), l.Segments(), l.Read(l.Start(), all), filesOf(t, d)}
}

func wantView(t *testing.T, what string, got, want view) {
	t.Helper()
	if !got.same(want) {
		t.Fatalf("%s:\n got %+v\nwant %+v", what, got, want)
	}
}

func wantErrno(t *testing.T, what string, got, want api.Errno) {
	t.Helper()
	if got != want {
		t.Fatalf("%s = %d, want %d", what, got, want)
	}
}

func wantInts(t *testing.T, what string, got []int, want ...int) {
	t.Helper()
	if !slices.Equal(got, want) {
		t.Errorf("%s = %d, want %d", what, got, want)
	}
}

func wantBatches(t *testing.T, what string, got []api.Batch, want ...api.Batch) {
	t.Helper()
	if textOf(got...) != textOf(want...) {
		t.Fatalf("%s = %+v, want %+v", what, got, want)
	}
}

// put lays a file whose first bytes last.
func put(t *testing.T, d *disk.Disk, name string, f file) {
	t.Helper()
	wantErrno(t, "Append", d.Append(name, []byte(f.Text[:f.Lasting])), api.OK)
	wantErrno(t, "Sync", d.Sync(name), api.OK)
	wantErrno(t, "Append", d.Append(name, []byte(f.Text[f.Lasting:])), api.OK)
}

// diskOf is a disk with these files.
func diskOf(t *testing.T, files map[string]file) *disk.Disk {
	t.Helper()
	d := disk.New()
	for name, f := range files {
		put(t, d, name, f)
	}
	return d
}

// lasting are files all of whose bytes last.
func lasting(texts map[string]string) map[string]file {
	files := map[string]file{}
	for name, text := range texts {
		files[name] = file{text, len(text)}
	}
	return files
}

func open(t *testing.T, d *disk.Disk, name string) *Log {
	t.Helper()
	l, e := Open(d, name)
	if e != api.OK || l == nil {
		t.Fatalf("Open(%q) = %v, %d", name, l, e)
	}
	return l
}

func putAll(t *testing.T, l *Log, list ...api.Batch) {
	t.Helper()
	for _, b := range list {
		wantErrno(t, "Put", l.Put(b), api.OK)
	}
}

// nameOf is the name of a segment's file.
func nameOf(log string, base int) string {
	return fmt.Sprintf("%s.%08d", log, base)
}

// entry is a batch in a segment's file.
type entry struct {
	b    api.Batch
	seg  int // from which offset on the segment goes
	text string
}

// model is a log by the chapter's words, in the plainest way.
type model struct {
	name    string
	bases   []int
	entries []entry
	lasts   map[int]int // bytes of each segment
}

func newModel(name string) *model {
	return &model{name: name, lasts: map[int]int{}}
}

func (m *model) start() int {
	if len(m.bases) == 0 {
		return 0
	}
	return m.bases[0]
}

func (m *model) end() int {
	if len(m.entries) > 0 {
		return endOf(m.entries[len(m.entries)-1].b)
	}
	return m.start()
}

// segment is the text of a segment's file.
func (m *model) segment(base int) string {
	var text strings.Builder
	for _, x := range m.entries {
		if x.seg == base {
			text.WriteString(x.text)
		}
	}
	return text.String()
}

func (m *model) synced() int {
	synced := m.start()
	bytes := map[int]int{}
	for _, x := range m.entries {
		bytes[x.seg] += len(x.text)
		if bytes[x.seg] > m.lasts[x.seg] {
			break
		}
		synced = endOf(x.b)
	}
	return synced
}

func (m *model) put(b api.Batch) api.Errno {
	if e := batch.Check(b); e != api.OK {
		return e
	}
	if b.Base != m.end() {
		return api.ErrOffset
	}
	if n := len(m.bases); n == 0 || len(m.segment(m.bases[n-1])) >= 512 {
		if n > 0 {
			m.lasts[m.bases[n-1]] = len(m.segment(m.bases[n-1]))
		}
		m.bases = append(m.bases, b.Base)
	}
	m.entries = append(m.entries, entry{b, m.bases[len(m.bases)-1], textOf(b)})
	return api.OK
}

func (m *model) flush() {
	for _, base := range m.bases {
		m.lasts[base] = len(m.segment(base))
	}
}

func (m *model) read(from, n int) []api.Batch {
	var list []api.Batch
	for _, x := range m.entries {
		if endOf(x.b) > from && len(list) < n {
			list = append(list, x.b)
		}
	}
	return list
}

func (m *model) truncate(to int) api.Errno {
	if to < m.start() {
		return api.ErrOffset
	}
	m.entries = slices.DeleteFunc(m.entries, func(x entry) bool { return endOf(x.b) > to })
	for i := len(m.bases) - 1; i >= 0; i-- {
		base := m.bases[i]
		m.lasts[base] = min(m.lasts[base], len(m.segment(base)))
		if i > 0 && m.segment(base) == "" {
			m.forget(i)
		}
	}
	return api.OK
}

func (m *model) drop(before int) {
	for len(m.bases) > 1 && m.bases[1] <= before {
		m.entries = slices.DeleteFunc(m.entries, func(x entry) bool { return x.seg == m.bases[0] })
		m.forget(0)
	}
}

// forget takes the i-th segment away.
func (m *model) forget(i int) {
	delete(m.lasts, m.bases[i])
	m.bases = slices.Delete(m.bases, i, i+1)
}

// view is what must be seen of the log, with the disk's other files.
func (m *model) view(others map[string]file) view {
	v := view{m.start(), m.end(), m.synced(), m.bases, m.read(m.start(), all), maps.Clone(others)}
	if v.Files == nil {
		v.Files = map[string]file{}
	}
	for _, base := range m.bases {
		v.Files[nameOf(m.name, base)] = file{m.segment(base), m.lasts[base]}
	}
	return v
}

// split are the offsets of a log's segments, rising, and the files that aren't the log's.
func split(name string, files map[string]file) ([]int, map[string]file) {
	var bases []int
	others := map[string]file{}
	form := regexp.MustCompile(`^([0-9]{8}|[1-9][0-9]{8,})$`)
	for n, f := range files {
		number, ok := strings.CutPrefix(n, name+".")
		base, err := strconv.Atoi(number)
		if ok && err == nil && form.MatchString(number) {
			bases = append(bases, base)
		} else {
			others[n] = f
		}
	}
	slices.Sort(bases)
	return bases, others
}

// batchAt is the batch at the front of a file's text, if it is whole and well formed, and its frame.
func batchAt(text string) (api.Batch, string, bool) {
	if len(text) < 8 {
		return api.Batch{}, "", false
	}
	length := binary.LittleEndian.Uint32([]byte(text))
	if length > 4096 || len(text)-8 < int(length) {
		return api.Batch{}, "", false
	}
	frame := text[:8+length]
	if framed([]byte(frame[8:])) != frame {
		return api.Batch{}, "", false
	}
	b, e := batch.Decode([]byte(frame[8:]))
	return b, frame, e == api.OK
}

// found is the log that must be found in files, and the files beside it.
func found(name string, files map[string]file) (*model, map[string]file) {
	m := newModel(name)
	bases, others := split(name, files)
	for i, base := range bases {
		if i > 0 && base != m.end() {
			break
		}
		m.bases = append(m.bases, base)
		f := files[nameOf(name, base)]
		next, rest := base, f.Text
		for {
			b, frame, ok := batchAt(rest)
			if !ok || b.Base != next {
				break
			}
			m.entries = append(m.entries, entry{b, base, frame})
			next, rest = endOf(b), rest[len(frame):]
		}
		m.lasts[base] = min(f.Lasting, len(f.Text)-len(rest))
		if rest != "" {
			break
		}
	}
	return m, others
}

// wantFound opens a log, which must be what the chapter says of the files.
func wantFound(t *testing.T, d *disk.Disk, name string) *Log {
	t.Helper()
	m, others := found(name, filesOf(t, d))
	l := open(t, d, name)
	wantView(t, "Open", seen(t, l, d), m.view(others))
	return l
}

// wantGoesOn asks that a log takes a batch, a segment, and has them behind a Crash.
func wantGoesOn(t *testing.T, d *disk.Disk, l *Log) {
	t.Helper()
	before := l.Read(l.Start(), all)
	b, c := of(l.End(), "on"), big(l.End()+1)
	putAll(t, l, b, c, small(endOf(c), 2))
	wantErrno(t, "Flush", l.Flush(), api.OK)
	if l.Synced() != l.End() {
		t.Fatalf("Synced = %d, End = %d", l.Synced(), l.End())
	}
	d.Crash(0)
	l = wantFound(t, d, l.name)
	wantBatches(t, "Read", l.Read(l.Start(), all), append(before, b, c, small(endOf(c), 2))...)
}

// isBeginning tells whether these batches are the first ones of others.
func isBeginning(list, of []api.Batch) bool {
	return bytes.HasPrefix([]byte(textOf(of...)), []byte(textOf(list...)))
}
