package batch

import (
	"bytes"
	"encoding/binary"
	"math"
	"math/rand"
	"reflect"
	"slices"
	"testing"

	"penstock/api"
)

// listOf are values of these texts.
func listOf(texts ...string) [][]byte {
	var list [][]byte
	for _, x := range texts {
		list = append(list, []byte(x))
	}
	return list
}

// many are n values of one byte.
func many(n int) [][]byte {
	list := [][]byte{}
	for i := range n {
		list = append(list, []byte{byte(i)})
	}
	return list
}

// sized is a value of n bytes.
func sized(n int) []byte {
	return bytes.Repeat([]byte{'x'}, n)
}

// plain is a batch of a producer, with nothing wrong, and marker a control batch.
func plain() api.Batch {
	return api.Batch{Base: 5, Epoch: 2, Pid: 7, PEpoch: 3, Seq: 4, Txn: true, Values: listOf("a", "", "bc")}
}

func marker() api.Batch {
	return api.Batch{Base: 300, Epoch: 2, Pid: 7, PEpoch: 3, Txn: true, Control: true, Commit: true}
}

// changed is a batch that was changed.
func changed(b api.Batch, change func(b *api.Batch)) api.Batch {
	change(&b)
	return b
}

func flag(b bool) byte {
	if b {
		return 1
	}
	return 0
}

// headForm and valuesForm are the two parts of a batch's form, as the chapters tell it, whether the batch may be or not.
func headForm(b api.Batch) []byte {
	text := binary.AppendVarint(nil, int64(b.Base))
	text = binary.AppendVarint(text, int64(b.Epoch))
	text = binary.AppendUvarint(text, b.Pid)
	text = binary.AppendVarint(text, int64(b.PEpoch))
	text = binary.AppendVarint(text, int64(b.Seq))
	return append(text, flag(b.Txn), flag(b.Control), flag(b.Commit))
}

func valuesForm(values [][]byte) []byte {
	text := binary.AppendUvarint(nil, uint64(len(values)))
	for _, v := range values {
		text = binary.AppendUvarint(text, uint64(len(v)))
		text = append(text, v...)
	}
	return text
}

func form(b api.Batch) []byte {
	return slices.Concat(headForm(b), valuesForm(b.Values))
}

// same tells whether two batches are one; a nil list is an empty list.
func same(a, b api.Batch) bool {
	values := slices.EqualFunc(a.Values, b.Values, bytes.Equal)
	a.Values, b.Values = nil, nil
	return values && reflect.DeepEqual(a, b)
}

func wantCheck(t *testing.T, what string, b api.Batch, e api.Errno) {
	t.Helper()
	if got := Check(b); got != e {
		t.Errorf("%s: Check(%+v) = %d; want %d", what, b, got, e)
	}
}

// wantEncoded asks for the form, or, with an error, for nothing.
func wantEncoded(t *testing.T, b api.Batch, e api.Errno) {
	t.Helper()
	text, got := Encode(b)
	if got != e {
		t.Errorf("Encode(%+v): error %d; want %d", b, got, e)
	}
	if e != api.OK && len(text) != 0 {
		t.Errorf("Encode(%+v) = %v beside the error %d", b, text, got)
	}
	if e == api.OK && !bytes.Equal(text, form(b)) {
		t.Errorf("Encode(%+v) = %v; want %v", b, text, form(b))
	}
}

func wantDecoded(t *testing.T, text []byte, b api.Batch) {
	t.Helper()
	if got, e := Decode(text); e != api.OK || !same(got, b) {
		t.Errorf("Decode(%v) = %+v, %d; want %+v", text, got, e, b)
	}
}

func wantRefused(t *testing.T, text []byte, e api.Errno) {
	t.Helper()
	got, gotE := Decode(text)
	if gotE != e {
		t.Errorf("Decode(%v): error %d; want %d", text, gotE, e)
	}
	if got.Values != nil || !same(got, api.Batch{}) {
		t.Errorf("Decode(%v) = %+v beside the error %d", text, got, gotE)
	}
}

func TestExamples(t *testing.T) {
	text, e := Encode(api.Batch{Values: listOf("a")})
	if e != api.OK || !bytes.Equal(text, []byte{0, 0, 0, 0, 0, 0, 0, 0, 1, 1, 97}) {
		t.Errorf("Encode = %v, %d", text, e)
	}
	control := api.Batch{Pid: 1, Control: true}
	wantCheck(t, "a control batch without Txn", control, api.ErrForm)
	control.Seq = -1
	wantCheck(t, "with Seq -1", control, api.ErrArg)
}

// P7.1: Size.

func TestSize(t *testing.T) {
	for _, n := range []int{0, 1, 2, 15, 16, 17, 1000} {
		if got := Size(api.Batch{Values: many(n)}); got != n {
			t.Errorf("Size of %d values = %d", n, got)
		}
		if got := Size(api.Batch{Control: true, Values: many(n)}); got != 1 {
			t.Errorf("Size of a control batch with %d values = %d", n, got)
		}
	}
	if got := Size(api.Batch{}); got != 0 {
		t.Errorf("Size of a batch without values = %d", got)
	}
	if got := Size(api.Batch{Control: true}); got != 1 {
		t.Errorf("Size of a control batch = %d", got)
	}
	if got := Size(plain()); got != 3 {
		t.Errorf("Size of a batch of three values = %d", got)
	}
	if got := Size(marker()); got != 1 {
		t.Errorf("Size of a marker = %d", got)
	}
	if got := Size(api.Batch{Values: [][]byte{nil, sized(65)}}); got != 2 {
		t.Errorf("Size counts bytes: %d", got)
	}
}

// P7.1: Check.

func TestCheckOfWhatMayBe(t *testing.T) {
	for what, b := range map[string]api.Batch{
		"a value, no producer":      {Values: listOf("a")},
		"an empty value":            {Values: listOf("")},
		"a nil value":               {Values: [][]byte{nil}},
		"a producer without a Txn":  {Pid: 1, Values: listOf("a")},
		"a Seq without a Txn":       {Pid: 1, Seq: 3, Values: listOf("a")},
		"a transaction's batch":     plain(),
		"a marker that commits":     marker(),
		"a marker that aborts":      changed(marker(), func(b *api.Batch) { b.Commit = false }),
		"a marker, an empty list":   changed(marker(), func(b *api.Batch) { b.Values = [][]byte{} }),
		"noughts":                   {Pid: 1, Txn: true, Values: listOf("a")},
		"the greatest numbers":      {Base: math.MaxInt, Epoch: math.MaxInt, Pid: 1000, PEpoch: 1000, Seq: math.MaxInt, Values: listOf("a")},
		"a marker of the greatest":  changed(marker(), func(b *api.Batch) { b.Base, b.Epoch, b.Pid, b.PEpoch = math.MaxInt, math.MaxInt, 1000, 1000 }),
		"16 values":                 {Values: many(16)},
		"64 bytes":                  {Values: [][]byte{sized(64)}},
		"16 values of 64 bytes all": {Values: slices.Repeat([][]byte{sized(64)}, 16)},
	} {
		wantCheck(t, what, b, api.OK)
		wantEncoded(t, b, api.OK)
		wantDecoded(t, form(b), b)
	}
}

func TestCheckOfNumbers(t *testing.T) {
	for what, change := range map[string]func(b *api.Batch){
		"Base -1":              func(b *api.Batch) { b.Base = -1 },
		"the least Base":       func(b *api.Batch) { b.Base = math.MinInt },
		"Epoch -1":             func(b *api.Batch) { b.Epoch = -1 },
		"the least Epoch":      func(b *api.Batch) { b.Epoch = math.MinInt },
		"PEpoch -1":            func(b *api.Batch) { b.PEpoch = -1 },
		"the least PEpoch":     func(b *api.Batch) { b.PEpoch = math.MinInt },
		"PEpoch 1001":          func(b *api.Batch) { b.PEpoch = 1001 },
		"the greatest PEpoch":  func(b *api.Batch) { b.PEpoch = math.MaxInt },
		"Seq -1":               func(b *api.Batch) { b.Seq = -1 },
		"the least Seq":        func(b *api.Batch) { b.Seq = math.MinInt },
		"Pid 1001":             func(b *api.Batch) { b.Pid = 1001 },
		"Pid 2^63":             func(b *api.Batch) { b.Pid = 1 << 63 },
		"the greatest Pid":     func(b *api.Batch) { b.Pid = math.MaxUint64 },
		"Pid 1001 and 17":      func(b *api.Batch) { b.Pid, b.Values = 1001, many(17) },
		"Base -1 and no kind":  func(b *api.Batch) { b.Base, b.Values, b.Control, b.Txn = -1, listOf("a"), true, false },
		"PEpoch -1 and Pid 0":  func(b *api.Batch) { b.PEpoch, b.Pid = -1, 0 },
		"Seq -1 and 65 bytes":  func(b *api.Batch) { b.Seq, b.Values = -1, [][]byte{sized(65)} },
		"PEpoch 1001, no Pid":  func(b *api.Batch) { b.PEpoch, b.Pid = 1001, 0 },
		"all numbers too many": func(b *api.Batch) { b.Base, b.Epoch, b.PEpoch, b.Seq, b.Pid = -1, -1, 1001, -1, 1001 },
	} {
		for _, b := range []api.Batch{plain(), marker()} {
			b = changed(b, change)
			wantCheck(t, what, b, api.ErrArg)
			wantEncoded(t, b, api.ErrArg)
		}
	}
}

func TestCheckOfForms(t *testing.T) {
	for what, b := range map[string]api.Batch{
		"a control batch with values":            changed(marker(), func(b *api.Batch) { b.Values = listOf("a") }),
		"a control batch with an empty value":    changed(marker(), func(b *api.Batch) { b.Values = listOf("") }),
		"a control batch without Txn":            changed(marker(), func(b *api.Batch) { b.Txn = false }),
		"a control batch without a producer":     changed(marker(), func(b *api.Batch) { b.Pid, b.PEpoch = 0, 0 }),
		"a control batch with a Seq":             changed(marker(), func(b *api.Batch) { b.Seq = 1 }),
		"a control batch alone":                  {Control: true},
		"another one without values":             changed(plain(), func(b *api.Batch) { b.Values = nil }),
		"another one with an empty list":         changed(plain(), func(b *api.Batch) { b.Values = [][]byte{} }),
		"another one with Commit":                changed(plain(), func(b *api.Batch) { b.Commit = true }),
		"with Commit, without a producer":        {Commit: true, Values: listOf("a")},
		"the zero batch":                         {},
		"Txn without a producer":                 {Txn: true, Values: listOf("a")},
		"PEpoch without a producer":              {PEpoch: 1, Values: listOf("a")},
		"Seq without a producer":                 {Seq: 1, Values: listOf("a")},
		"the greatest Seq without a producer":    {Seq: math.MaxInt, Values: listOf("a")},
		"a control batch with 17 values":         changed(marker(), func(b *api.Batch) { b.Values = many(17) }),
		"a control batch with a value of 65":     changed(marker(), func(b *api.Batch) { b.Values = [][]byte{sized(65)} }),
		"with Commit and 17 values":              changed(plain(), func(b *api.Batch) { b.Commit, b.Values = true, many(17) }),
		"Txn without a producer and a value, 65": {Txn: true, Values: [][]byte{sized(65)}},
	} {
		wantCheck(t, what, b, api.ErrForm)
		wantEncoded(t, b, api.ErrForm)
	}
}

func TestCheckOfLengths(t *testing.T) {
	for what, values := range map[string][][]byte{
		"17 values":                   many(17),
		"17 empty values":             make([][]byte, 17),
		"1000 values":                 many(1000),
		"65 bytes":                    {sized(65)},
		"4097 bytes":                  {sized(4097)},
		"65 bytes of the last one":    append(many(15), sized(65)),
		"65 bytes of one within":      {sized(64), sized(65), sized(64)},
		"17 values, and one of these": append(many(16), sized(65)),
	} {
		for _, b := range []api.Batch{plain(), {}} {
			b.Values = values
			wantCheck(t, what, b, api.ErrLong)
			wantEncoded(t, b, api.ErrLong)
		}
	}
}

// fault is something that may be wrong with a batch.
type fault struct {
	e     api.Errno
	holds bool
}

// faults are all of the chapter's, in its order.
func faults(b api.Batch) []fault {
	other := !b.Control
	longest := 0
	for _, v := range b.Values {
		longest = max(longest, len(v))
	}
	return []fault{
		{api.ErrArg, b.Base < 0},
		{api.ErrArg, b.Epoch < 0},
		{api.ErrArg, b.PEpoch < 0},
		{api.ErrArg, b.Seq < 0},
		{api.ErrArg, b.PEpoch > 1000},
		{api.ErrArg, b.Pid > 1000},
		{api.ErrForm, b.Control && len(b.Values) > 0},
		{api.ErrForm, b.Control && !b.Txn},
		{api.ErrForm, b.Control && b.Pid == 0},
		{api.ErrForm, b.Control && b.Seq != 0},
		{api.ErrForm, other && len(b.Values) == 0},
		{api.ErrForm, other && b.Commit},
		{api.ErrForm, b.Pid == 0 && b.Txn},
		{api.ErrForm, b.Pid == 0 && b.PEpoch != 0},
		{api.ErrForm, b.Pid == 0 && b.Seq != 0},
		{api.ErrLong, len(b.Values) > 16},
		{api.ErrLong, longest > 64},
	}
}

func firstFault(b api.Batch) api.Errno {
	for _, f := range faults(b) {
		if f.holds {
			return f.e
		}
	}
	return api.OK
}

// eachBatch goes through all batches of which each part is one about its edges.
func eachBatch(with func(b api.Batch)) {
	lists := [][][]byte{nil, {}, {nil}, listOf("a", ""), many(16), many(17), {sized(64)}, {{1}, sized(65)}, append(many(16), sized(65))}
	flags := []bool{false, true}
	var b api.Batch
	for _, b.Base = range []int{-1, 0, 64} {
		for _, b.Epoch = range []int{-1, 0, 1} {
			for _, b.Pid = range []uint64{0, 1, 1000, 1001} {
				for _, b.PEpoch = range []int{-1, 0, 1, 1000, 1001} {
					for _, b.Seq = range []int{-1, 0, 1} {
						for _, b.Txn = range flags {
							for _, b.Control = range flags {
								for _, b.Commit = range flags {
									for _, b.Values = range lists {
										with(b)
									}
								}
							}
						}
					}
				}
			}
		}
	}
}

// TestFirstErrorOfSeveral: whatever is wrong at once, all calls answer what the chapter names first; and what may be goes there and back.
func TestFirstErrorOfSeveral(t *testing.T) {
	good := 0
	eachBatch(func(b api.Batch) {
		e := firstFault(b)
		wantCheck(t, "of several", b, e)
		wantEncoded(t, b, e)
		switch {
		case e == api.OK:
			good++
			wantDecoded(t, form(b), b)
		case len(b.Values) > 16:
			wantRefused(t, form(b), api.ErrLong)
		default:
			wantRefused(t, form(b), e)
		}
	})
	if good == 0 {
		t.Error("none was encoded")
	}
}

// P7.1: the form.

func TestForm(t *testing.T) {
	for _, x := range []struct {
		b    api.Batch
		text []byte
	}{
		{plain(), []byte{10, 4, 7, 6, 8, 1, 0, 0, 3, 1, 97, 0, 2, 98, 99}},
		{marker(), []byte{216, 4, 4, 7, 6, 0, 1, 1, 1, 0}},
		{changed(marker(), func(b *api.Batch) { b.Commit = false }), []byte{216, 4, 4, 7, 6, 0, 1, 1, 0, 0}},
		{api.Batch{Base: 63, Epoch: 64, Pid: 1000, PEpoch: 1000, Seq: 150, Values: [][]byte{{0}}}, []byte{126, 128, 1, 232, 7, 208, 15, 172, 2, 0, 0, 0, 1, 1, 0}},
	} {
		text, e := Encode(x.b)
		if e != api.OK || !bytes.Equal(text, x.text) {
			t.Errorf("Encode(%+v) = %v, %d; want %v", x.b, text, e, x.text)
		}
		wantDecoded(t, x.text, x.b)
	}
}

// P7.2.

// some are batches that may be, short and long ones.
func some() []api.Batch {
	return []api.Batch{
		plain(),
		marker(),
		{Values: listOf("a")},
		{Values: listOf("")},
		{Base: math.MaxInt, Epoch: math.MaxInt, Pid: 1000, PEpoch: 1000, Seq: math.MaxInt, Txn: true, Values: slices.Repeat([][]byte{sized(64)}, 16)},
	}
}

func TestDecodeOfBytesThatEnd(t *testing.T) {
	wantRefused(t, nil, api.ErrEnd)
	wantRefused(t, []byte{}, api.ErrEnd)
	for _, b := range some() {
		text := form(b)
		for cut := range text {
			wantRefused(t, text[:cut], api.ErrEnd)
			wantRefused(t, slices.Clone(text[:cut]), api.ErrEnd)
		}
	}
	// What Check would refuse isn't asked for where the form ends too early.
	text := form(changed(plain(), func(b *api.Batch) { b.Base, b.Control, b.Values = -1, true, [][]byte{sized(65)} }))
	for cut := range text {
		wantRefused(t, text[:cut], api.ErrEnd)
	}
	wantRefused(t, text, api.ErrArg)
}

func TestDecodeOfBytesBehind(t *testing.T) {
	for _, b := range some() {
		text := form(b)
		wantRefused(t, append(slices.Clone(text), 0), api.ErrEnd)
		wantRefused(t, append(slices.Clone(text), 128), api.ErrEnd)
		wantRefused(t, append(slices.Clone(text), text...), api.ErrEnd)
	}
	eachBatch(func(b api.Batch) {
		if len(b.Values) <= 16 {
			wantRefused(t, append(form(b), 0), api.ErrEnd)
		}
	})
}

func TestDecodeOfTooManyValues(t *testing.T) {
	heads := [][]byte{
		headForm(plain()),
		headForm(marker()),
		headForm(changed(plain(), func(b *api.Batch) { b.Base, b.Seq = -1, -1 })),
		headForm(changed(plain(), func(b *api.Batch) { b.Pid, b.Commit = 0, true })),
	}
	for _, head := range heads {
		for _, n := range []uint64{17, 18, 127, 128, 4096, 4097, 1 << 31, 1 << 32, 1<<32 + 1, 1 << 63, 1<<63 + 1, math.MaxUint64} {
			text := binary.AppendUvarint(slices.Clone(head), n)
			wantRefused(t, text, api.ErrLong)
			wantRefused(t, append(text, 1), api.ErrLong)
			wantRefused(t, append(text, 255, 0, 255), api.ErrLong)
			wantRefused(t, append(text, make([]byte, 17)...), api.ErrLong)
			wantRefused(t, append(text, make([]byte, 5000)...), api.ErrLong)
		}
		wantRefused(t, append(slices.Clone(head), 16), api.ErrEnd)
		wantRefused(t, append(append(slices.Clone(head), 16), make([]byte, 15)...), api.ErrEnd)
		wantRefused(t, append(slices.Clone(head), 145, 0), api.ErrForm)
	}
	wantDecoded(t, append(append(headForm(plain()), 16), make([]byte, 16)...), changed(plain(), func(b *api.Batch) { b.Values = make([][]byte, 16) }))
}

// TestDecodeOfLongValues: layer 3 refuses what is above 4096 where it is read; what is above 64 is left to Check, behind all else.
func TestDecodeOfLongValues(t *testing.T) {
	head := headForm(plain())
	wrong := headForm(changed(plain(), func(b *api.Batch) { b.Epoch = -1 }))
	noForm := headForm(changed(plain(), func(b *api.Batch) { b.Commit = true }))
	for _, n := range []int{65, 127, 128, 4095, 4096} {
		values := valuesForm([][]byte{{1}, sized(n)})
		wantRefused(t, slices.Concat(head, values), api.ErrLong)
		wantRefused(t, slices.Concat(head, values, []byte{0}), api.ErrEnd)
		wantRefused(t, slices.Concat(head, values[:len(values)-1]), api.ErrEnd)
		wantRefused(t, slices.Concat(wrong, values), api.ErrArg)
		wantRefused(t, slices.Concat(noForm, values), api.ErrForm)
	}
	for _, n := range []uint64{4097, 1 << 31, 1 << 32, 1 << 63, math.MaxUint64} {
		values := binary.AppendUvarint([]byte{2, 1, 1}, n)
		for _, head := range [][]byte{head, wrong, noForm} {
			wantRefused(t, slices.Concat(head, values), api.ErrLong)
			wantRefused(t, slices.Concat(head, values, sized(5000)), api.ErrLong)
		}
	}
}

// TestDecodeOfNumbersAndFlags: what layer 3 refuses is refused at each place, ahead of all that stands behind it.
func TestDecodeOfNumbersAndFlags(t *testing.T) {
	behind := [][]byte{{}, {0, 0, 0, 0, 0, 0, 0, 17}, form(plain())}
	for place := range 9 {
		ahead := make([]byte, place)
		for _, b := range behind {
			wantRefused(t, slices.Concat(ahead, []byte{128, 0}, b), api.ErrForm)
			wantRefused(t, slices.Concat(ahead, bytes.Repeat([]byte{255}, 10), b), api.ErrForm)
			wantRefused(t, slices.Concat(ahead, bytes.Repeat([]byte{128}, 9), []byte{2}, b), api.ErrForm)
			if place >= 5 && place < 8 {
				wantRefused(t, slices.Concat(ahead, []byte{2}, b), api.ErrForm)
				wantRefused(t, slices.Concat(ahead, []byte{129, 1}, b), api.ErrForm)
			}
		}
		wantRefused(t, slices.Concat(ahead, []byte{129}), api.ErrEnd)
	}
	wantRefused(t, slices.Concat(headForm(plain()), []byte{2, 129, 0}), api.ErrForm)
	wantRefused(t, slices.Concat(headForm(plain()), []byte{2, 1, 97, 128, 0}), api.ErrForm)
}

// model reads a batch by the document's words, and by the library's numbers, not by layer 3.
type model struct {
	text []byte
	e    api.Errno
}

func (m *model) number() uint64 {
	if m.e != api.OK {
		return 0
	}
	n, size := binary.Uvarint(m.text)
	switch {
	case size == 0 && len(m.text) < 10:
		m.e = api.ErrEnd
	case size <= 0 || size > 1 && m.text[size-1] == 0:
		m.e = api.ErrForm
	default:
		m.text = m.text[size:]
		return n
	}
	return 0
}

func (m *model) signed() int {
	n := m.number()
	if n%2 == 1 {
		return -1 - int(n/2)
	}
	return int(n / 2)
}

func (m *model) flag() bool {
	n := m.number()
	if n > 1 {
		m.e = api.ErrForm
	}
	return n == 1
}

func (m *model) value() []byte {
	n := m.number()
	if n > 4096 {
		m.e = api.ErrLong
	} else if n > uint64(len(m.text)) {
		m.e = api.ErrEnd
	}
	if m.e != api.OK {
		return nil
	}
	v := m.text[:n]
	m.text = m.text[n:]
	return v
}

func (m *model) batch() (api.Batch, api.Errno) {
	b := api.Batch{Base: m.signed(), Epoch: m.signed(), Pid: m.number(), PEpoch: m.signed(), Seq: m.signed(), Txn: m.flag(), Control: m.flag(), Commit: m.flag()}
	count := m.number()
	if count > 16 {
		m.e = api.ErrLong
	}
	for range min(count, 16) {
		b.Values = append(b.Values, m.value())
	}
	if m.e == api.OK && len(m.text) > 0 {
		m.e = api.ErrEnd
	}
	if m.e == api.OK {
		m.e = firstFault(b)
	}
	return b, m.e
}

// wantAsModel holds Decode against the model; and what is decoded must be encoded as it was.
func wantAsModel(t *testing.T, text []byte) api.Errno {
	t.Helper()
	m := model{text: text}
	b, e := m.batch()
	if e != api.OK {
		wantRefused(t, text, e)
		return e
	}
	wantDecoded(t, text, b)
	got, _ := Decode(text)
	if back, e := Encode(got); e != api.OK || !bytes.Equal(back, text) {
		t.Errorf("%v is decoded, and encoded as %v, %d", text, back, e)
	}
	return e
}

// TestDecodeOfAllShortTexts: of all texts of at most eleven bytes 0, 1 and 2.
func TestDecodeOfAllShortTexts(t *testing.T) {
	good := 0
	var text []byte
	var longer func()
	longer = func() {
		if wantAsModel(t, text) == api.OK {
			good++
		}
		if len(text) == 11 || t.Failed() {
			return
		}
		for x := range byte(3) {
			text = append(text, x)
			longer()
			text = text[:len(text)-1]
		}
	}
	longer()
	if good == 0 {
		t.Error("none was decoded")
	}
}

// drawnBatch is a batch that may be.
func drawnBatch(draw *rand.Rand) api.Batch {
	b := api.Batch{Base: draw.Intn(1 << draw.Intn(62)), Epoch: draw.Intn(1 << draw.Intn(62))}
	if draw.Intn(3) > 0 {
		b.Pid, b.PEpoch, b.Txn = uint64(1+draw.Intn(1000)), draw.Intn(1001), draw.Intn(2) == 0
	}
	if b.Pid > 0 && draw.Intn(4) == 0 {
		b.Txn, b.Control, b.Commit = true, true, draw.Intn(2) == 0
		return b
	}
	if b.Pid > 0 {
		b.Seq = draw.Intn(1 << draw.Intn(62))
	}
	for range 1 + draw.Intn(16) {
		v := make([]byte, draw.Intn(65))
		draw.Read(v)
		b.Values = append(b.Values, v)
	}
	return b
}

// turned is a text in which some bytes are others, are gone, or are new.
func turned(draw *rand.Rand, text []byte) []byte {
	for range 1 + draw.Intn(3) {
		at := draw.Intn(min(len(text), 1+draw.Intn(20)))
		x := []byte{0, 1, 2, 16, 17, 64, 65, 127, 128, 129, 255}[draw.Intn(11)]
		switch draw.Intn(4) {
		case 0:
			text[at] = x
		case 1:
			text = slices.Insert(text, at, x)
		case 2:
			text = slices.Delete(text, at, at+1)
		case 3:
			text = text[:len(text)-draw.Intn(2)]
		}
		if len(text) == 0 {
			break
		}
	}
	return text
}

func TestDecodeOfTurnedTexts(t *testing.T) {
	draw := rand.New(rand.NewSource(7))
	seen := map[api.Errno]int{}
	for range 200000 {
		text := turned(draw, form(drawnBatch(draw)))
		seen[wantAsModel(t, text)]++
		if t.Failed() {
			return
		}
	}
	for _, e := range []api.Errno{api.OK, api.ErrArg, api.ErrForm, api.ErrLong, api.ErrEnd} {
		if seen[e] == 0 {
			t.Errorf("the error %d was never drawn", e)
		}
	}
}

// P7.3.

func TestThereAndBack(t *testing.T) {
	draw := rand.New(rand.NewSource(3))
	for range 20000 {
		b := drawnBatch(draw)
		wantCheck(t, "drawn", b, api.OK)
		text, e := Encode(b)
		if e != api.OK {
			t.Fatalf("Encode(%+v): error %d", b, e)
		}
		wantDecoded(t, text, b)
		got, _ := Decode(text)
		wantEncoded(t, got, api.OK)
		if Size(got) != Size(b) {
			t.Errorf("Size %d is decoded as %d", Size(b), Size(got))
		}
		if t.Failed() {
			return
		}
	}
}

// Rules that hold everywhere: what is handed in, and what is answered.

// roomy is a batch, and the memory that all of it stands in: its values one behind the other, each with room up to the end, and one value more behind the list.
func roomy() (api.Batch, []byte) {
	memory := []byte("onetwothree and more behind them")
	list := [][]byte{memory[0:3], memory[3:6], memory[6:11], memory[11:20]}
	return changed(plain(), func(b *api.Batch) { b.Values = list[:3] }), memory
}

func wantUntouched(t *testing.T, call string, b api.Batch, memory []byte) {
	t.Helper()
	fresh, freshMemory := roomy()
	list := b.Values[:4]
	if !same(b, fresh) || !bytes.Equal(memory, freshMemory) || !bytes.Equal(list[3], freshMemory[11:20]) {
		t.Errorf("%s has changed what it was handed", call)
	}
	if &list[0][0] != &memory[0] || &list[3][0] != &memory[11] {
		t.Errorf("%s has put other values into the list", call)
	}
}

func TestWhatIsHandedInStaysAndIsNotKept(t *testing.T) {
	b, memory := roomy()
	want := form(b)
	Size(b)
	wantUntouched(t, "Size", b, memory)
	Check(b)
	wantUntouched(t, "Check", b, memory)
	text, e := Encode(b)
	wantUntouched(t, "Encode", b, memory)
	if e != api.OK {
		t.Fatalf("Encode: error %d", e)
	}
	clear(memory)
	if !bytes.Equal(text, want) {
		t.Error("Encode's bytes share memory with the values")
	}

	room := append(slices.Clone(want), 1, 2, 3)
	got, e := Decode(room[:len(want)])
	if e != api.OK || !bytes.Equal(room, append(slices.Clone(want), 1, 2, 3)) {
		t.Errorf("Decode: error %d, or it has changed its text", e)
	}
	clear(room)
	fresh, _ := roomy()
	if !same(got, fresh) {
		t.Error("Decode's values share memory with the text")
	}
}

func TestWhatIsRefusedStays(t *testing.T) {
	b, memory := roomy()
	b.Base = -1
	Encode(b)
	b.Base = 5
	wantUntouched(t, "Encode", b, memory)
	text := append(form(b), 9, 9)
	want := slices.Clone(text)
	Decode(text[:len(text)-1])
	Decode(text[:len(text)-3])
	if !bytes.Equal(text, want) {
		t.Error("Decode has changed a text that it refused")
	}
}

// spoil writes over all of a list, and over the room behind it.
func spoil(b []byte) {
	clear(b[:cap(b)])
	_ = append(b, bytes.Repeat([]byte{0}, 64)...)
}

func TestWhatIsAnsweredIsTheCallers(t *testing.T) {
	b := plain()
	first, _ := Encode(b)
	second, _ := Encode(b)
	spoil(first)
	if !bytes.Equal(second, form(b)) {
		t.Error("two answers of Encode share memory")
	}
	if third, _ := Encode(b); !bytes.Equal(third, form(b)) {
		t.Error("Encode keeps what it has answered")
	}

	b.Values = listOf("one", "two", "three", "")
	text := form(b)
	for i := range b.Values {
		one, _ := Decode(text)
		other, _ := Decode(text)
		spoil(one.Values[i])
		for k, v := range one.Values {
			if k != i && !bytes.Equal(v, b.Values[k]) {
				t.Errorf("the values %d and %d of an answer share memory", i, k)
			}
		}
		clear(one.Values)
		_ = append(one.Values, []byte("more"))
		if !same(other, b) {
			t.Error("two answers of Decode share memory")
		}
		wantDecoded(t, text, b)
	}
}

// TestSameAnswerAgain: an answer hangs on the arguments alone, whatever was asked in between.
func TestSameAnswerAgain(t *testing.T) {
	draw := rand.New(rand.NewSource(11))
	for range 1000 {
		b := drawnBatch(draw)
		text := turned(draw, form(drawnBatch(draw)))
		first, firstE := Encode(b)
		got, gotE := Decode(text)
		Decode(form(drawnBatch(draw)))
		Encode(changed(b, func(b *api.Batch) { b.Base = -1 }))
		if again, e := Encode(b); e != firstE || !bytes.Equal(again, first) {
			t.Errorf("Encode(%+v) answers %v, and then %v", b, first, again)
		}
		if again, e := Decode(text); e != gotE || !same(again, got) {
			t.Errorf("Decode(%v) answers %+v, and then %+v", text, got, again)
		}
	}
}
