package parse

import (
	"encoding/binary"
	"hash/adler32"
	"hash/crc32"
	"math/rand"
	"slices"
	"strconv"
	"strings"

	"mortise/api"
	"mortise/exp"
)

// patch is a number that an integer would have to be.
type patch struct {
	at  int
	f   api.Field
	n   uint64
	set bool
}

// value is what was read of a field.
type value struct {
	node   api.Node
	lo, hi int
}

// reader reads as the chapter says, byte by byte where it claims, and answers errors where Parse panics.
type reader struct {
	d       api.Desc
	b       string
	fuel    int
	spent   int
	owned   map[int]bool
	regions []api.Region
	wish    patch // what would have to be another number for the reading to go on
	place   patch // the last number that told where a field stands
	seen    map[string]int
}

// model is Parse of a valid description, with the reader that tells how it went.
func model(d api.Desc, b string, fuel int) (api.Node, []api.Region, api.Errno, *reader) {
	m := &reader{d: d, b: b, fuel: fuel, owned: map[int]bool{}, seen: map[string]int{}}
	node, _, e := m.record(d.Recs[0].Name, 0, nil, false)
	if e != api.OK {
		return api.Node{}, nil, e, m
	}
	slices.SortFunc(m.regions, func(a api.Region, b api.Region) int { return a.Lo - b.Lo })
	return node, m.regions, api.OK, m
}

func (m *reader) spend() api.Errno {
	if m.spent == m.fuel {
		return api.ErrFuel
	}
	m.spent++
	return api.OK
}

func (m *reader) claim(lo int, hi int, path []int, shared bool) api.Errno {
	if hi > len(m.b) {
		return api.ErrCut
	}
	if shared || lo == hi {
		return api.OK
	}
	for i := lo; i < hi; i++ {
		if m.owned[i] {
			m.wish = m.place
			m.wish.n = uint64(len(m.b))
			return api.ErrOverlap
		}
		m.owned[i] = true
	}
	m.regions = append(m.regions, api.Region{Lo: lo, Hi: hi, Path: slices.Clone(path)})
	return api.OK
}

func (m *reader) record(name string, at int, path []int, shared bool) (api.Node, int, api.Errno) {
	rec := m.d.Recs[slices.IndexFunc(m.d.Recs, func(r api.Rec) bool { return r.Name == name })]
	got := map[string]value{}
	var node api.Node
	var names []api.Bind
	for i, f := range rec.Fields {
		if e := m.spend(); e != api.OK {
			return node, 0, e
		}
		lo := at
		if f.At != "" {
			m.seen["at"]++
			p := got[f.At]
			m.place = patch{p.lo, rec.Fields[slices.IndexFunc(rec.Fields, func(x api.Field) bool { return x.Name == f.At })], uint64(len(m.b)), true}
			if p.node.N > uint64(len(m.b)) {
				m.wish = m.place
				return node, 0, api.ErrCut
			}
			lo = int(p.node.N)
		}
		x, hi, e := m.field(f, lo, names, append(slices.Clone(path), i), shared || f.Shared)
		if e != api.OK {
			return node, 0, e
		}
		got[f.Name] = value{x, lo, hi}
		node.L = append(node.L, x)
		if f.Kind == api.FInt {
			names = append(names, api.Bind{Name: f.Name, N: x.N})
		}
		if f.At == "" {
			at = hi
		}
	}
	return node, at, m.checked(rec, got)
}

// checked compares each integer of a record with what it should be.
func (m *reader) checked(rec api.Rec, got map[string]value) api.Errno {
	for _, f := range rec.Fields {
		if f.Kind != api.FInt {
			continue
		}
		a, b := got[f.A], got[f.B]
		n, e := got[f.Name].node.N, api.ErrForm
		want := n
		switch f.Auto {
		case api.AutoSize:
			want = uint64(a.hi - a.lo)
		case api.AutoCount:
			want = uint64(len(a.node.L))
		case api.AutoCrc:
			want, e = uint64(crc32.ChecksumIEEE([]byte(m.b[a.lo:b.hi]))), api.ErrSum
		case api.AutoAdler:
			want, e = uint64(adler32.Checksum([]byte(m.b[a.lo:b.hi]))), api.ErrSum
		}
		if n != want {
			m.wish = patch{got[f.Name].lo, f, want, true}
			return e
		}
		m.seen["auto "+strconv.Itoa(f.Auto)]++
	}
	return api.OK
}

func (m *reader) field(f api.Field, at int, names []api.Bind, path []int, shared bool) (api.Node, int, api.Errno) {
	var n uint64
	if f.Kind == api.FBytes || f.Kind == api.FArray || f.Kind == api.FPick {
		var e api.Errno
		if n, e = exp.Eval(m.d.Exps, f.E, names); e != api.OK {
			return api.Node{}, 0, e
		}
	}
	m.seen["kind "+strconv.Itoa(f.Kind)]++
	if shared {
		m.seen["shared"]++
	}
	switch f.Kind {
	case api.FInt:
		return m.integer(f, at, path, shared)
	case api.FBytes:
		if n > uint64(len(m.b)-at) {
			return api.Node{}, 0, api.ErrCut
		}
		return api.Node{S: m.b[at : at+int(n)]}, at + int(n), m.claim(at, at+int(n), path, shared)
	case api.FRest:
		return api.Node{S: m.b[at:]}, len(m.b), m.claim(at, len(m.b), path, shared)
	case api.FRec:
		return m.record(f.Rec, at, path, shared)
	case api.FArray:
		return m.list(f, at, n, path, shared)
	case api.FFill:
		return m.list(f, at, 1<<63, path, shared)
	case api.FPick:
		return m.pick(f, n, at, path, shared)
	}
	end := at
	for end%f.Align != 0 {
		end++
	}
	if e := m.claim(at, end, path, shared); e != api.OK {
		return api.Node{}, 0, e
	}
	for i := at; i < end; i++ {
		if m.b[i] != 0 {
			m.wish = patch{i, api.Field{Width: 1}, 0, true}
			return api.Node{}, 0, api.ErrForm
		}
	}
	if end > at {
		m.seen["padding"]++
	}
	return api.Node{}, end, api.OK
}

// encode is the bytes of a number, and whether it fits.
func encode(f api.Field, n uint64) ([]byte, bool) {
	b := binary.LittleEndian.AppendUint64(nil, n)
	fits := !slices.ContainsFunc(b[f.Width:], func(c byte) bool { return c != 0 })
	b = b[:f.Width]
	if f.Big {
		slices.Reverse(b)
	}
	return b, fits
}

func (m *reader) integer(f api.Field, at int, path []int, shared bool) (api.Node, int, api.Errno) {
	if e := m.claim(at, at+f.Width, path, shared); e != api.OK {
		return api.Node{}, 0, e
	}
	var n uint64
	for i := range f.Width {
		k := i
		if !f.Big {
			k = f.Width - 1 - i
		}
		n = n*256 + uint64(m.b[at+k])
	}
	if f.Is && n != f.Const {
		m.wish = patch{at, f, f.Const, true}
		return api.Node{}, 0, api.ErrForm
	}
	if f.Is {
		m.seen["is"]++
	}
	return api.Node{N: n}, at + f.Width, api.OK
}

// list reads as many records, or as many as there are bytes for if this is the greatest number.
func (m *reader) list(f api.Field, at int, n uint64, path []int, shared bool) (api.Node, int, api.Errno) {
	var all api.Node
	for uint64(len(all.L)) < n && (n < 1<<63 || at < len(m.b)) {
		if e := m.spend(); e != api.OK {
			return all, 0, e
		}
		x, end, e := m.record(f.Rec, at, append(slices.Clone(path), len(all.L)), shared)
		if e != api.OK {
			return all, 0, e
		}
		m.seen["element"]++
		all.L = append(all.L, x)
		at = end
	}
	return all, at, api.OK
}

func (m *reader) pick(f api.Field, n uint64, at int, path []int, shared bool) (api.Node, int, api.Errno) {
	name := f.Else
	if i := slices.IndexFunc(f.Cases, func(c api.Case) bool { return c.N == n }); i >= 0 {
		name = f.Cases[i].Rec
		m.seen["case"]++
	} else {
		m.seen["else"]++
	}
	if name == "" {
		return api.Node{}, 0, api.ErrForm
	}
	x, end, e := m.record(name, at, append(slices.Clone(path), 0), shared)
	return api.Node{N: n, L: []api.Node{x}}, end, e
}

// mended is bytes that are changed a little so that they might be read further.
func (m *reader) mended(r *rand.Rand, e api.Errno) string {
	b := []byte(m.b)
	if e == api.ErrCut || r.Intn(4) == 0 {
		b = append(b, noise(r, 1+r.Intn(6))...)
	}
	if s, fits := encode(m.wish.f, m.wish.n); m.wish.set && fits {
		copy(b[m.wish.at:], s)
		return string(b)
	}
	if len(b) > 0 && e != api.ErrCut {
		copy(b[r.Intn(len(b)):], noise(r, 1))
	}
	return string(b)
}

// noise is n bytes, of which most are small.
func noise(r *rand.Rand, n int) string {
	b := make([]byte, n)
	for i := range b {
		switch r.Intn(12) {
		case 0:
			b[i] = byte(r.Intn(256))
		case 1, 2, 3:
			b[i] = byte(r.Intn(5))
		}
	}
	return string(b)
}

// show is a node as text: a number, bytes, or what it is made of, where zero and empty ones are left out beside others.
func show(x api.Node) string {
	s := ""
	if x.N != 0 || x.S == "" && len(x.L) == 0 {
		s = strconv.FormatUint(x.N, 10)
	}
	if x.S != "" {
		s += strconv.Quote(x.S)
	}
	if len(x.L) == 0 {
		return s
	}
	var l []string
	for _, y := range x.L {
		l = append(l, show(y))
	}
	return s + "{" + strings.Join(l, " ") + "}"
}

// showRegions are regions as text, each as its bounds and its path.
func showRegions(l []api.Region) string {
	var all []string
	for _, x := range l {
		s := strconv.Itoa(x.Lo) + "-" + strconv.Itoa(x.Hi) + ":"
		for i, n := range x.Path {
			if i > 0 {
				s += "."
			}
			s += strconv.Itoa(n)
		}
		all = append(all, s)
	}
	return strings.Join(all, " ")
}
