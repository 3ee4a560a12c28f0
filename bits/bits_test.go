package bits

import (
	"bytes"
	"math"
	"math/rand"
	"testing"

	"mortise/api"
)

// counts are numbers of bits or bytes, with those that there may not be.
func counts(most int) []int {
	l := []int{math.MinInt, math.MinInt32, -8, -2}
	for n := -1; n <= most; n++ {
		l = append(l, n)
	}
	return append(l, 255, 256, 1<<29, 1<<32, 1<<60, 1<<61, 1<<61+1, math.MaxInt-7, math.MaxInt)
}

// list is a string's bits, one by one, the lowest one of each byte first.
func list(s string) []bool {
	var l []bool
	for _, b := range []byte(s) {
		for i := range 8 {
			l = append(l, b>>i&1 == 1)
		}
	}
	return l
}

// modelReader is a reader as the chapter tells it: a list of bits with an index.
type modelReader struct {
	l  []bool
	at int
}

func (m *modelReader) bits(n int) (uint32, api.Errno) {
	if n < 0 || n > 32 {
		return 0, api.ErrArg
	}
	if n > len(m.l)-m.at {
		return 0, api.ErrCut
	}
	var v uint32
	for i := range n {
		if m.l[m.at+i] {
			v |= 1 << i
		}
	}
	m.at += n
	return v, api.OK
}

func (m *modelReader) align() {
	for m.at%8 != 0 {
		m.at++
	}
}

func (m *modelReader) bytes(n int) (string, api.Errno) {
	if n < 0 {
		return "", api.ErrArg
	}
	m.align()
	if n > (len(m.l)-m.at)/8 {
		return "", api.ErrCut
	}
	var s []byte
	for range n {
		b, _ := m.bits(8)
		s = append(s, byte(b))
	}
	return string(s), api.OK
}

// The kinds of what may be asked.
const (
	askBits = iota
	askAlign
	askBytes
	kinds
)

// bothRead asks the reader and the model the same.
func bothRead(t *testing.T, r *Reader, m *modelReader, kind int, n int) {
	t.Helper()
	from := m.at
	switch kind {
	case askBits:
		want, wantE := m.bits(n)
		if v, e := r.Bits(n); v != want || e != wantE {
			t.Fatalf("bit %d of %d: Bits(%d): %x, %d, not %x, %d", from, len(m.l), n, v, e, want, wantE)
		}
	case askAlign:
		m.align()
		r.Align()
	case askBytes:
		want, wantE := m.bytes(n)
		if s, e := r.Bytes(n); s != want || e != wantE {
			t.Fatalf("bit %d of %d: Bytes(%d): %x, %d, not %x, %d", from, len(m.l), n, s, e, want, wantE)
		}
	}
	if r.At() != m.at {
		t.Fatalf("bit %d of %d: kind %d, %d: At %d, not %d", from, len(m.l), kind, n, r.At(), m.at)
	}
}

const text = "\x96\x35\xff\x00\x81\x7e\xc3\xa5\x01\x80"

// TestP5_1EveryPlace asks everything, at every place of a text and of those that it begins with.
func TestP5_1EveryPlace(t *testing.T) {
	for length := range len(text) + 1 {
		s := text[:length]
		for at := range 8*length + 1 {
			for kind := range kinds {
				for _, n := range counts(40) {
					r, m := New(s), &modelReader{l: list(s)}
					for m.at < at {
						bothRead(t, r, m, askBits, 1)
					}
					bothRead(t, r, m, kind, n)
					bothRead(t, r, m, askBits, 3)
					bothRead(t, r, m, askBytes, 1)
				}
			}
		}
	}
}

func TestP5_1ManyInTurn(t *testing.T) {
	random := rand.New(rand.NewSource(1))
	for range 3000 {
		s := make([]byte, random.Intn(60))
		random.Read(s)
		r, m := New(string(s)), &modelReader{l: list(string(s))}
		for range 30 {
			bothRead(t, r, m, random.Intn(kinds), random.Intn(1+random.Intn(36))-1)
		}
	}
}

// TestP5_1Errors: what changes nothing, and what aligns all the same.
func TestP5_1Errors(t *testing.T) {
	r := New("\xb6\x0f")
	r.Bits(3)
	for i, c := range []struct {
		n  int
		e  api.Errno
		at int
	}{{-1, api.ErrArg, 3}, {33, api.ErrArg, 3}, {math.MinInt, api.ErrArg, 3}, {math.MaxInt, api.ErrArg, 3}, {14, api.ErrCut, 3}, {32, api.ErrCut, 3}, {0, api.OK, 3}, {13, api.OK, 16}, {1, api.ErrCut, 16}, {0, api.OK, 16}} {
		if v, e := r.Bits(c.n); e != c.e || r.At() != c.at || e != api.OK && v != 0 {
			t.Errorf("case %d: %x, %d, at %d", i, v, e, r.At())
		}
	}
	for i, c := range []struct {
		n  int
		s  string
		e  api.Errno
		at int
	}{{-1, "", api.ErrArg, 3}, {math.MinInt, "", api.ErrArg, 3}, {2, "", api.ErrCut, 8}, {math.MaxInt, "", api.ErrCut, 8}, {0, "", api.OK, 8}, {1, "\x0f", api.OK, 16}} {
		r := New("\xb6\x0f")
		r.Bits(3)
		if s, e := r.Bytes(c.n); s != c.s || e != c.e || r.At() != c.at {
			t.Errorf("case %d: %q, %d, at %d", i, s, e, r.At())
		}
	}
}

func TestP5_1Nil(t *testing.T) {
	var r *Reader
	for _, n := range counts(40) {
		if v, e := r.Bits(n); v != 0 || e != api.ErrArg {
			t.Errorf("Bits(%d): %x, %d", n, v, e)
		}
		if s, e := r.Bytes(n); s != "" || e != api.ErrArg {
			t.Errorf("Bytes(%d): %q, %d", n, s, e)
		}
	}
	r.Align()
	if r.At() != 0 {
		t.Errorf("At: %d", r.At())
	}
}

// modelWriter is a writer as the chapter tells it: a list of bits.
type modelWriter struct {
	l []bool
}

func (m *modelWriter) put(v uint32, n int) api.Errno {
	if n < 0 || n > 32 || uint64(v) >= uint64(1)<<n {
		return api.ErrArg
	}
	for i := range n {
		m.l = append(m.l, v>>i&1 == 1)
	}
	return api.OK
}

func (m *modelWriter) align() {
	for len(m.l)%8 != 0 {
		m.l = append(m.l, false)
	}
}

func (m *modelWriter) add(s string) {
	m.align()
	m.l = append(m.l, list(s)...)
}

func (m *modelWriter) text() string {
	s := make([]byte, (len(m.l)+7)/8)
	for i, bit := range m.l {
		if bit {
			s[i/8] |= 1 << (i % 8)
		}
	}
	return string(s)
}

func sameWritten(t *testing.T, w *Writer, m *modelWriter) {
	t.Helper()
	if w.String() != m.text() || w.Len() != len(m.l) {
		t.Fatalf("%x, %d bits, not %x, %d", w.String(), w.Len(), m.text(), len(m.l))
	}
}

// bothPut writes the same number to both.
func bothPut(t *testing.T, w *Writer, m *modelWriter, v uint32, n int) {
	t.Helper()
	want := m.put(v, n)
	if e := w.Put(v, n); e != want {
		t.Fatalf("Put(%x, %d): %d, not %d", v, n, e, want)
	}
	sameWritten(t, w, m)
}

// TestP5_2EveryPlace writes numbers at each bit of a byte: the greatest that fit, the least that don't, and others.
func TestP5_2EveryPlace(t *testing.T) {
	for ahead := range 25 {
		for _, n := range counts(40) {
			values := []uint32{0, 1, 2, 0x12345678, 0x80000000, 0xfffffffe, 0xffffffff}
			if n > 0 && n < 32 {
				values = append(values, 1<<n-1, 1<<n, 1<<n+1, 1<<(n-1), 0x5a5a5a5a&(1<<n-1))
			}
			for _, v := range values {
				var w Writer
				var m modelWriter
				sameWritten(t, &w, &m)
				for i := range ahead {
					bothPut(t, &w, &m, uint32(i*5/3)&1, 1)
				}
				bothPut(t, &w, &m, v, n)
				bothPut(t, &w, &m, 5, 3)
				w.Align()
				m.align()
				sameWritten(t, &w, &m)
				w.Align()
				sameWritten(t, &w, &m)
			}
		}
	}
}

func TestP5_2Add(t *testing.T) {
	for ahead := range 18 {
		for _, s := range []string{"", "a", "\x00", "\xff\x00\x80", text} {
			var w Writer
			var m modelWriter
			for range ahead {
				bothPut(t, &w, &m, 1, 1)
			}
			for range 2 {
				w.Add(s)
				m.add(s)
				sameWritten(t, &w, &m)
			}
			bothPut(t, &w, &m, 0x2b, 6)
			w.Add(s)
			m.add(s)
			sameWritten(t, &w, &m)
		}
	}
}

// TestP5_2Padding: the padding of String is not written, so the next bits take its place.
func TestP5_2Padding(t *testing.T) {
	var w Writer
	w.Put(1, 1)
	if w.String() != "\x01" || w.Len() != 1 || w.String() != "\x01" {
		t.Errorf("%x, %d", w.String(), w.Len())
	}
	w.Put(0x7f, 7)
	if w.String() != "\xff" || w.Len() != 8 {
		t.Errorf("%x, %d", w.String(), w.Len())
	}
	w.Align()
	if w.Len() != 8 {
		t.Errorf("%d", w.Len())
	}
	w.Put(0, 1)
	w.Add("")
	if w.String() != "\xff\x00" || w.Len() != 16 {
		t.Errorf("%x, %d", w.String(), w.Len())
	}
}

func TestP5_2Nil(t *testing.T) {
	var w *Writer
	for _, n := range counts(40) {
		if e := w.Put(0, n); e != api.ErrArg {
			t.Errorf("Put(0, %d): %d", n, e)
		}
	}
	w.Align()
	w.Add("a")
	if w.String() != "" || w.Len() != 0 {
		t.Errorf("%q, %d", w.String(), w.Len())
	}
}

// TestP5_3ReadBack writes anything in turn, and reads it in the same turn.
func TestP5_3ReadBack(t *testing.T) {
	type item struct {
		kind int
		n    int
		v    uint32
		s    string
	}
	random := rand.New(rand.NewSource(3))
	for range 2000 {
		var w Writer
		var m modelWriter
		items := make([]item, random.Intn(50))
		for i := range items {
			x := item{kind: random.Intn(kinds), n: random.Intn(33)}
			switch x.kind {
			case askBits:
				x.v = uint32(random.Uint64() & (1<<x.n - 1))
				if e := w.Put(x.v, x.n); e != api.OK {
					t.Fatalf("Put(%x, %d): %d", x.v, x.n, e)
				}
				m.put(x.v, x.n)
			case askAlign:
				w.Align()
				m.align()
			case askBytes:
				b := make([]byte, x.n)
				random.Read(b)
				x.s = string(b)
				w.Add(x.s)
				m.add(x.s)
			}
			items[i] = x
		}
		sameWritten(t, &w, &m)
		r := New(w.String())
		for _, x := range items {
			switch x.kind {
			case askBits:
				if v, e := r.Bits(x.n); v != x.v || e != api.OK {
					t.Fatalf("Bits(%d): %x, %d, not %x", x.n, v, e, x.v)
				}
			case askAlign:
				r.Align()
			case askBytes:
				if s, e := r.Bytes(x.n); s != x.s || e != api.OK {
					t.Fatalf("Bytes(%d): %x, %d, not %x", x.n, s, e, x.s)
				}
			}
		}
		if r.At() != w.Len() {
			t.Fatalf("%d bits read, %d written", r.At(), w.Len())
		}
	}
}

// TestP5_2Long: what is written piece by piece amounts to the same, however much it is.
func TestP5_2Long(t *testing.T) {
	var w, all Writer
	var want bytes.Buffer
	for i := range 200000 {
		w.Put(uint32(i)&0x1f, 5)
		w.Put(uint32(i)>>5&0x7ff, 11)
		want.WriteByte(byte(i))
		want.WriteByte(byte(i >> 8))
	}
	all.Add(want.String())
	if w.String() != want.String() || w.Len() != 8*want.Len() || all.String() != want.String() || all.Len() != w.Len() {
		t.Errorf("%d bits, not %d", w.Len(), 8*want.Len())
	}
}

// TestR6Apart: no reader or writer depends on another one, nor a string that was handed out on what is written later.
func TestR6Apart(t *testing.T) {
	a, b := New(text), New(text)
	a.Bits(9)
	if b.At() != 0 {
		t.Errorf("At: %d", b.At())
	}
	if v, e := b.Bits(8); v != 0x96 || e != api.OK {
		t.Errorf("%x, %d", v, e)
	}
	var w, x Writer
	w.Put(3, 2)
	s := w.String()
	w.Put(0x3f, 6)
	w.Add(text)
	whole := w.String()
	w.Put(1, 1)
	w.Add(text)
	if s != "\x03" || whole != "\xff"+text || x.String() != "" || x.Len() != 0 {
		t.Errorf("%x, %x, %x", s, whole, x.String())
	}
}

// TestACopyReadsOn: package huff looks ahead by a copy of a reader.
func TestACopyReadsOn(t *testing.T) {
	r := New(text)
	r.Bits(3)
	ahead := *r
	ahead.Bits(20)
	if r.At() != 3 || ahead.At() != 23 {
		t.Errorf("%d, %d", r.At(), ahead.At())
	}
	if v, e := r.Bits(5); v != 0x12 || e != api.OK {
		t.Errorf("%x, %d", v, e)
	}
}

func TestExamplesOfTheChapter(t *testing.T) {
	var w Writer
	if w.Put(1, 1) != api.OK || w.Put(2, 2) != api.OK || w.Put(0, 3) != api.OK || w.String() != "\x05" {
		t.Errorf("%x", w.String())
	}
	r := New("\x05")
	if v, e := r.Bits(1); v != 1 || e != api.OK {
		t.Errorf("%d, %d", v, e)
	}
	if v, e := r.Bits(2); v != 2 || e != api.OK {
		t.Errorf("%d, %d", v, e)
	}
}
