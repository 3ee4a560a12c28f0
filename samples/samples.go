// Package samples makes valid descriptions, and nodes of them, and models and files of all formats, for tests.
package samples

import (
	"slices"
	"strconv"

	"mortise/api"
)

const (
	mostRecords = 5
	mostFields  = 8
)

// maker makes one description, whose records lead only to those after them.
type maker struct {
	choose   func(n int) int
	open     bool // whether the last field is open, so that none stands elsewhere
	recs     []api.Rec
	repeated []bool // of each record, whether it has an integer, and so may be repeated
	exps     []api.Exp
	used     []string // the names in expressions of the record that is being made
}

// Desc returns a valid description, where choose tells which of n choices is taken, by a number from 0 to n - 1.
func Desc(choose func(n int) int) api.Desc {
	m := &maker{choose: choose, open: choose(4) == 0}
	for i := range 1 + choose(mostRecords) {
		m.recs = append(m.recs, api.Rec{Name: "r" + strconv.Itoa(i)})
		m.repeated = append(m.repeated, m.likely(8))
	}
	for i := range m.recs {
		m.fill(i)
	}
	return api.Desc{Recs: m.recs, Exps: m.exps}
}

// Copy returns a description that shares no memory with another one, but is the same.
func Copy(d api.Desc) api.Desc {
	c := api.Desc{Recs: slices.Clone(d.Recs), Exps: slices.Clone(d.Exps)}
	for i := range c.Recs {
		r := &c.Recs[i]
		r.Fields = slices.Clone(r.Fields)
		for k := range r.Fields {
			r.Fields[k].Cases = slices.Clone(r.Fields[k].Cases)
		}
	}
	return c
}

// likely tells yes in so many of ten cases.
func (m *maker) likely(tenths int) bool { return m.choose(10) < tenths }

// fill makes the fields of a record.
func (m *maker) fill(record int) {
	r := &m.recs[record]
	m.used = nil
	for i := range m.choose(mostFields + 1) {
		f := m.field(record)
		f.Name = "f" + strconv.Itoa(i)
		r.Fields = append(r.Fields, f)
	}
	if m.repeated[record] {
		f := api.Field{Name: "int", E: -1}
		m.integer(&f)
		r.Fields = append(r.Fields, f)
	}
	if record == 0 && m.open {
		f := m.openField()
		f.Name = "last"
		r.Fields = append(r.Fields, f)
	}
	m.compute(r.Fields)
}

// field makes one of any kind but the open ones, which are not computed yet.
func (m *maker) field(record int) api.Field {
	f := api.Field{E: -1}
	after, repeated := m.recs[record+1:], m.repeatedAfter(record)
	switch k := m.choose(12); {
	case k == 0:
		f.Kind, f.E = api.FBytes, m.expression(m.recs[record].Fields)
	case k == 1 && len(after) > 0:
		f.Kind, f.Rec = api.FRec, m.one(after)
	case k <= 3 && len(repeated) > 0:
		f.Kind, f.E, f.Rec = api.FArray, m.expression(m.recs[record].Fields), m.one(repeated)
	case k == 4 && len(after) > 0:
		m.pick(&f, record)
	case k == 5:
		f.Kind, f.Align = api.FAlign, 1+m.choose(6)
	default:
		m.integer(&f)
	}
	return f
}

func (m *maker) integer(f *api.Field) {
	f.Kind, f.Width = api.FInt, 1
	if m.likely(5) {
		f.Width = 1 << m.choose(4)
	}
	f.Big = f.Width > 1 && m.likely(5)
	if m.likely(1) {
		f.Is, f.Const = true, uint64(m.choose(256))
	}
}

func (m *maker) pick(f *api.Field, record int) {
	f.Kind, f.E = api.FPick, m.expression(m.recs[record].Fields)
	after := m.recs[record+1:]
	for i := range m.choose(4) {
		f.Cases = append(f.Cases, api.Case{N: uint64(i), Rec: m.one(after)})
	}
	if m.likely(7) {
		f.Else = m.one(after)
	}
}

func (m *maker) openField() api.Field {
	repeated := m.repeatedAfter(0)
	if len(repeated) == 0 || m.likely(4) {
		return api.Field{Kind: api.FRest, E: -1}
	}
	return api.Field{Kind: api.FFill, E: -1, Rec: m.one(repeated)}
}

func (m *maker) one(l []api.Rec) string { return l[m.choose(len(l))].Name }

// repeatedAfter returns the records after one that may be repeated.
func (m *maker) repeatedAfter(record int) []api.Rec {
	var l []api.Rec
	for i := record + 1; i < len(m.recs); i++ {
		if m.repeated[i] {
			l = append(l, m.recs[i])
		}
	}
	return l
}

// expression makes one of the integers among some fields, with a value that is mostly small, and returns its index.
func (m *maker) expression(fields []api.Field) int {
	var ints []string
	for _, f := range fields {
		if f.Kind == api.FInt {
			ints = append(ints, f.Name)
		}
	}
	if len(ints) == 0 || m.likely(2) {
		return m.add(api.Exp{N: uint64(m.choose(4))})
	}
	name := ints[m.choose(len(ints))]
	m.used = append(m.used, name)
	i := m.add(api.Exp{Name: name})
	for m.likely(4) {
		signs := []string{"%", "&", "-", "+", "/", ">>", "==", "<"}
		k := m.add(api.Exp{N: uint64(1 + m.choose(4))})
		i = m.add(api.Exp{Op: signs[m.choose(len(signs))], L: i, R: k})
	}
	return i
}

func (m *maker) add(x api.Exp) int {
	m.exps = append(m.exps, x)
	return len(m.exps) - 1
}
