package layout

import (
	"encoding/binary"
	"hash/adler32"
	"hash/crc32"
	"slices"
	"strconv"
	"strings"

	"mortise/api"
	"mortise/exp"
)

// cell is a field that was placed, told by its path.
type cell struct {
	steps  []int
	f      api.Field
	v      api.Node
	n      uint64
	lo, hi int
	shared bool
}

// scribe lays out as the chapter says, with everything in one list that is asked again and again.
type scribe struct {
	d     api.Desc
	cells []*cell
	wait  []*cell
	end   int
	b     []byte
}

// model is Layout of a valid description, with the node that has all computed numbers in place.
func model(d api.Desc, v api.Node, limit int) (string, []api.Region, api.Errno, api.Node) {
	m := &scribe{d: d}
	none := api.Node{}
	if !m.isRecord(d.Recs[0].Name, v) {
		return "", nil, api.ErrType, none
	}
	m.place(d.Recs[0].Name, v, nil, false)
	var placed []*cell
	for len(m.wait) > 0 {
		c := m.wait[0]
		m.wait = m.wait[1:]
		placed = append(placed, c)
		m.fill(c)
	}
	if m.end > limit {
		return "", nil, api.ErrLimit, none
	}
	if e := m.write(); e != api.OK {
		return "", nil, e, none
	}
	m.sums(d.Recs[0].Name, v, nil)
	for _, c := range placed {
		m.within(c)
	}
	var regions []api.Region
	for _, c := range m.cells {
		if !c.shared && c.hi > c.lo && slices.Contains([]int{api.FInt, api.FBytes, api.FRest, api.FAlign}, c.f.Kind) {
			regions = append(regions, api.Region{Lo: c.lo, Hi: c.hi, Path: c.steps})
		}
	}
	slices.SortFunc(regions, func(a api.Region, b api.Region) int { return a.Lo - b.Lo })
	return string(m.b), regions, api.OK, m.numbered(d.Recs[0].Name, v, nil)
}

func (m *scribe) fields(name string) []api.Field {
	for _, r := range m.d.Recs {
		if r.Name == name {
			return r.Fields
		}
	}
	panic(name)
}

// chosen is the record of a case with the number n, or else that of Else.
func chosen(f api.Field, n uint64) string {
	for _, c := range f.Cases {
		if c.N == n {
			return c.Rec
		}
	}
	return f.Else
}

func (m *scribe) isRecord(name string, v api.Node) bool {
	l := m.fields(name)
	ok := v.N == 0 && v.S == "" && len(v.L) == len(l)
	for i := 0; ok && i < len(l); i++ {
		ok = m.isField(l[i], v.L[i])
	}
	return ok
}

func (m *scribe) isField(f api.Field, v api.Node) bool {
	hasN := f.Kind == api.FInt || f.Kind == api.FPick
	hasS := f.Kind == api.FBytes || f.Kind == api.FRest
	hasL := f.Kind == api.FRec || f.Kind == api.FArray || f.Kind == api.FFill || f.Kind == api.FPick
	if v.N != 0 && !hasN || v.S != "" && !hasS || len(v.L) > 0 && !hasL {
		return false
	}
	if f.Kind == api.FRec {
		return m.isRecord(f.Rec, v)
	}
	name := f.Rec
	if f.Kind == api.FPick {
		name = chosen(f, v.N)
		if name == "" || len(v.L) != 1 {
			return false
		}
	}
	for _, x := range v.L {
		if !m.isRecord(name, x) {
			return false
		}
	}
	return true
}

func more(steps []int, i int) []int { return append(slices.Clone(steps), i) }

func (m *scribe) place(name string, v api.Node, steps []int, shared bool) {
	for i, f := range m.fields(name) {
		c := &cell{steps: more(steps, i), f: f, v: v.L[i], shared: shared || f.Shared}
		m.cells = append(m.cells, c)
		if f.At == "" {
			m.fill(c)
		} else {
			m.wait = append(m.wait, c)
		}
	}
}

func (m *scribe) fill(c *cell) {
	c.lo = m.end
	switch c.f.Kind {
	case api.FInt:
		m.end += c.f.Width
	case api.FBytes, api.FRest:
		m.end += len(c.v.S)
	case api.FRec:
		m.place(c.f.Rec, c.v, c.steps, c.shared)
	case api.FAlign:
		for m.end%c.f.Align != 0 {
			m.end++
		}
	}
	for i, x := range m.inner(c) {
		m.place(x.name, x.v, more(c.steps, i), c.shared)
	}
	c.hi = m.end
}

// inner are the records in the list of a cell that is no record itself.
func (m *scribe) inner(c *cell) []struct {
	name string
	v    api.Node
} {
	var l []struct {
		name string
		v    api.Node
	}
	name := c.f.Rec
	switch c.f.Kind {
	case api.FPick:
		name = chosen(c.f, c.v.N)
	case api.FArray, api.FFill:
	default:
		return nil
	}
	for _, x := range c.v.L {
		l = append(l, struct {
			name string
			v    api.Node
		}{name, x})
	}
	return l
}

// own are the fields of the record that steps lead to, in order.
func (m *scribe) own(steps []int) []*cell {
	var l []*cell
	for _, c := range m.cells {
		if k := len(steps); len(c.steps) == k+1 && slices.Equal(c.steps[:k], steps) {
			l = append(l, c)
		}
	}
	return l
}

// beside are the fields of the record that c is in.
func (m *scribe) beside(c *cell) []*cell { return m.own(c.steps[:len(c.steps)-1]) }

func (m *scribe) named(c *cell, name string) *cell {
	l := m.beside(c)
	return l[slices.IndexFunc(l, func(x *cell) bool { return x.f.Name == name })]
}

func (m *scribe) write() api.Errno {
	m.b = make([]byte, m.end)
	e := api.OK
	for _, c := range m.cells {
		if c.f.Kind != api.FInt {
			copy(m.b[c.lo:], c.v.S)
			continue
		}
		switch c.f.Auto {
		case api.AutoNone:
			c.n = c.v.N
		case api.AutoSize:
			a := m.named(c, c.f.A)
			c.n = uint64(a.hi - a.lo)
		case api.AutoCount:
			c.n = uint64(len(m.named(c, c.f.A).v.L))
		case api.AutoAt:
			c.n = uint64(m.named(c, c.f.A).lo)
		}
		if !m.put(c) {
			e = api.ErrField
		}
	}
	if e == api.OK && !m.agrees() {
		e = api.ErrType
	}
	return e
}

// put writes the bytes of an integer, and tells whether it fits.
func (m *scribe) put(c *cell) bool {
	s := binary.BigEndian.AppendUint64(nil, c.n)
	fits := strings.Trim(string(s[:8-c.f.Width]), "\x00") == ""
	s = s[8-c.f.Width:]
	if !c.f.Big {
		slices.Reverse(s)
	}
	copy(m.b[c.lo:], s)
	return fits
}

func (m *scribe) agrees() bool {
	for _, c := range m.cells {
		var want uint64
		switch c.f.Kind {
		case api.FInt:
			if c.f.Is && c.n != c.f.Const {
				return false
			}
			continue
		case api.FBytes:
			want = uint64(len(c.v.S))
		case api.FArray:
			want = uint64(len(c.v.L))
		case api.FPick:
			want = c.v.N
		default:
			continue
		}
		var names []api.Bind
		for _, x := range m.beside(c)[:c.steps[len(c.steps)-1]] {
			if x.f.Kind == api.FInt {
				names = append(names, api.Bind{Name: x.f.Name, N: x.n})
			}
		}
		if n, e := exp.Eval(m.d.Exps, c.f.E, names); e != api.OK || n != want {
			return false
		}
	}
	return true
}

// sums computes the checksums in a record that was placed, but not those in fields with an At.
func (m *scribe) sums(name string, v api.Node, steps []int) {
	own := m.own(steps)
	for _, c := range own {
		if c.f.At == "" {
			m.within(c)
		}
	}
	for _, c := range own {
		if c.f.Kind != api.FInt || c.f.Auto != api.AutoCrc && c.f.Auto != api.AutoAdler {
			continue
		}
		s := m.b[m.named(c, c.f.A).lo:m.named(c, c.f.B).hi]
		c.n = uint64(adler32.Checksum(s))
		if c.f.Auto == api.AutoCrc {
			c.n = uint64(crc32.ChecksumIEEE(s))
		}
		m.put(c)
	}
}

// within computes the checksums of the records inside a field.
func (m *scribe) within(c *cell) {
	if c.f.Kind == api.FRec {
		m.sums(c.f.Rec, c.v, c.steps)
	}
	for i, x := range m.inner(c) {
		m.sums(x.name, x.v, more(c.steps, i))
	}
}

// numbered is a node with all computed numbers.
func (m *scribe) numbered(name string, v api.Node, steps []int) api.Node {
	var y api.Node
	for i := range m.fields(name) {
		k := slices.IndexFunc(m.cells, func(c *cell) bool { return slices.Equal(c.steps, more(steps, i)) })
		c := m.cells[k]
		x := api.Node{N: c.v.N, S: c.v.S}
		if c.f.Kind == api.FInt {
			x.N = c.n
		}
		if c.f.Kind == api.FRec {
			x = m.numbered(c.f.Rec, c.v, c.steps)
		}
		for i, z := range m.inner(c) {
			x.L = append(x.L, m.numbered(z.name, z.v, more(c.steps, i)))
		}
		y.L = append(y.L, x)
	}
	return y
}

// show is a node as text: a number, bytes, or what it is made of, where zero and empty ones are left out beside others.
func show(x api.Node) string {
	s := ""
	if x.N != 0 || x.S == "" && len(x.L) == 0 {
		s = strconv.FormatUint(x.N, 10)
	}
	if x.S != "" {
		s += strconv.Quote(x.S)
	}
	if len(x.L) == 0 {
		return s
	}
	var l []string
	for _, y := range x.L {
		l = append(l, show(y))
	}
	return s + "{" + strings.Join(l, " ") + "}"
}

// showRegions are regions as text, each as its bounds and its path.
func showRegions(l []api.Region) string {
	var all []string
	for _, x := range l {
		s := strconv.Itoa(x.Lo) + "-" + strconv.Itoa(x.Hi) + ":"
		for i, n := range x.Path {
			if i > 0 {
				s += "."
			}
			s += strconv.Itoa(n)
		}
		all = append(all, s)
	}
	return strings.Join(all, " ")
}
