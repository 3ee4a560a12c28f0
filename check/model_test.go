package check

import (
	"math/rand"
	"regexp"
	"slices"

	"mortise/api"
	"mortise/exp"
)

var nameForm = regexp.MustCompile(`^[A-Za-z_][A-Za-z0-9_]{0,15}$`)

// model has each of the chapter's rules as it stands there, so that each may be broken alone.
type model struct {
	d api.Desc
}

// broken are the numbers of the rules that a description breaks.
func broken(d api.Desc) []int {
	m := model{d}
	var l []int
	for i, holds := range []func() bool{m.rule1, m.rule2, m.rule3, m.rule4, m.rule5, m.rule6, m.rule7, m.rule8, m.rule9} {
		if !holds() {
			l = append(l, i+1)
		}
	}
	return l
}

// all tells whether something holds for each field.
func (m model) all(holds func(r api.Rec, i int) bool) bool {
	for _, r := range m.d.Recs {
		for i := range r.Fields {
			if !holds(r, i) {
				return false
			}
		}
	}
	return true
}

// goodNames tells whether all are names, and all different.
func goodNames(l []string) bool {
	for i, s := range l {
		if !nameForm.MatchString(s) || slices.Contains(l[:i], s) {
			return false
		}
	}
	return true
}

func (m model) record(name string) int {
	return slices.IndexFunc(m.d.Recs, func(r api.Rec) bool { return r.Name == name })
}

// field is the index of the first field of a name, or less than 0.
func field(r api.Rec, name string) int {
	return slices.IndexFunc(r.Fields, func(f api.Field) bool { return f.Name == name })
}

// leadsTo are the names of the records that a field leads to.
func leadsTo(f api.Field) []string {
	var l []string
	if f.Kind == api.FRec || f.Kind == api.FArray || f.Kind == api.FFill {
		l = append(l, f.Rec)
	}
	if f.Kind == api.FPick {
		for _, c := range f.Cases {
			l = append(l, c.Rec)
		}
		if f.Else != "" {
			l = append(l, f.Else)
		}
	}
	return l
}

func (m model) rule1() bool {
	var names []string
	for _, r := range m.d.Recs {
		names = append(names, r.Name)
	}
	return len(names) >= 1 && len(names) <= 40 && goodNames(names) && exp.Check(m.d.Exps) == api.OK
}

func (m model) rule2() bool {
	for _, r := range m.d.Recs {
		var names []string
		for _, f := range r.Fields {
			names = append(names, f.Name)
		}
		if len(names) > 40 || !goodNames(names) {
			return false
		}
	}
	return m.all(func(r api.Rec, i int) bool { return slices.Contains([]int{1, 2, 3, 4, 5, 6, 7, 8}, r.Fields[i].Kind) })
}

// rule3 goes along all chains at once: after twelve steps, none may go on. One that comes back to a record goes on forever.
func (m model) rule3() bool {
	ends := map[string]bool{}
	for _, r := range m.d.Recs {
		ends[r.Name] = true
	}
	for range 12 {
		next := map[string]bool{}
		for name := range ends {
			for _, f := range m.d.Recs[m.record(name)].Fields {
				for _, t := range leadsTo(f) {
					if m.record(t) <= 0 {
						return false
					}
					next[t] = true
				}
			}
		}
		ends = next
	}
	return len(ends) == 0
}

func (m model) rule4() bool {
	most := map[int]uint64{1: 1<<8 - 1, 2: 1<<16 - 1, 4: 1<<32 - 1, 8: 1<<64 - 1}
	return m.all(func(r api.Rec, i int) bool {
		f := r.Fields[i]
		if f.Kind != api.FInt {
			return true
		}
		n, ok := most[f.Width]
		return ok && slices.Contains([]int{0, 1, 2, 3, 4, 5}, f.Auto) && (!f.Is || f.Auto == 0 && f.Const <= n)
	})
}

// names are those that an expression uses.
func (m model) names(i int) []string {
	x := m.d.Exps[i]
	if x.Op != "" {
		return append(m.names(x.L), m.names(x.R)...)
	}
	if x.Name != "" {
		return []string{x.Name}
	}
	return nil
}

func (m model) rule5() bool {
	return m.all(func(r api.Rec, i int) bool {
		f := r.Fields[i]
		switch f.Kind {
		case api.FAlign:
			return f.Align >= 1 && f.Align <= 4096
		case api.FPick:
			for k, c := range f.Cases {
				if k >= 20 || slices.ContainsFunc(f.Cases[:k], func(b api.Case) bool { return b.N == c.N }) {
					return false
				}
			}
		case api.FBytes, api.FArray:
		default:
			return true
		}
		if f.E < 0 || f.E >= len(m.d.Exps) || exp.Check(m.d.Exps) != api.OK {
			return false
		}
		for _, name := range m.names(f.E) {
			k := field(r, name)
			if k < 0 || k >= i || r.Fields[k].Kind != api.FInt || r.Fields[k].Auto == 4 || r.Fields[k].Auto == 5 {
				return false
			}
		}
		return true
	})
}

func (m model) rule6() bool {
	return m.all(func(r api.Rec, i int) bool {
		f := r.Fields[i]
		k := m.record(f.Rec)
		return f.Kind != api.FArray && f.Kind != api.FFill || k >= 0 && slices.ContainsFunc(m.d.Recs[k].Fields, func(x api.Field) bool { return x.Kind == api.FInt })
	})
}

func (m model) rule7() bool {
	open, at := 0, 0
	for _, r := range m.d.Recs {
		for _, f := range r.Fields {
			if f.Kind == api.FRest || f.Kind == api.FFill {
				open++
			}
			if f.At != "" {
				at++
			}
		}
	}
	if open == 0 {
		return true
	}
	l := m.d.Recs[0].Fields
	return open == 1 && at == 0 && len(l) > 0 && (l[len(l)-1].Kind == api.FRest || l[len(l)-1].Kind == api.FFill)
}

func (m model) rule8() bool {
	return m.all(func(r api.Rec, i int) bool {
		f := r.Fields[i]
		if f.At == "" {
			return !f.Shared
		}
		k := field(r, f.At)
		return slices.Contains([]int{api.FBytes, api.FRec, api.FArray, api.FPick}, f.Kind) &&
			k >= 0 && k < i && r.Fields[k].Kind == api.FInt && r.Fields[k].Auto == api.AutoAt && r.Fields[k].A == f.Name
	})
}

func (m model) rule9() bool {
	return m.all(func(r api.Rec, i int) bool {
		f := r.Fields[i]
		if f.Kind != api.FInt || f.Auto < 1 || f.Auto > 5 {
			return true
		}
		a, b := field(r, f.A), field(r, f.B)
		switch {
		case a < 0:
			return false
		case f.Auto == api.AutoSize:
			return r.Fields[a].Kind != api.FInt && r.Fields[a].Kind != api.FAlign
		case f.Auto == api.AutoCount:
			return r.Fields[a].Kind == api.FArray || r.Fields[a].Kind == api.FFill
		case f.Auto == api.AutoAt:
			return r.Fields[a].At == f.Name
		}
		if b < a || f.Width != 4 || r.Fields[a].At != "" || r.Fields[b].At != "" || a <= i && i <= b {
			return false
		}
		return !slices.ContainsFunc(r.Fields[a:b+1], func(x api.Field) bool { return x.Kind == api.FInt && (x.Auto == 4 || x.Auto == 5) })
	})
}

// change changes one thing of a description at random.
func change(r *rand.Rand, d *api.Desc) {
	rec := &d.Recs[r.Intn(len(d.Recs))]
	switch r.Intn(40) {
	case 0:
		rec.Name = someName(r)
		return
	case 1:
		d.Recs = append(d.Recs, api.Rec{Name: someName(r)})
		return
	case 2:
		if len(d.Exps) > 0 {
			d.Exps[r.Intn(len(d.Exps))] = api.Exp{Name: someName(r), N: uint64(r.Intn(2))}
		}
		return
	case 3: // a record that may not be repeated
		rec.Fields = slices.DeleteFunc(rec.Fields, func(f api.Field) bool { return f.Kind == api.FInt })
		return
	}
	if len(rec.Fields) == 0 {
		return
	}
	f := &rec.Fields[r.Intn(len(rec.Fields))]
	switch r.Intn(8) {
	case 0: // two fields in the other order
		g := &rec.Fields[r.Intn(len(rec.Fields))]
		*f, *g = *g, *f
	case 1:
		f.Name = someName(r)
	case 2:
		f.Kind = r.Intn(11) - 1
	default:
		changeMember(r, f)
	}
}

func changeMember(r *rand.Rand, f *api.Field) {
	switch r.Intn(14) {
	case 0:
		f.Width = []int{-1, 0, 1, 2, 3, 4, 8, 16}[r.Intn(8)]
	case 1:
		f.Big = !f.Big
	case 2:
		f.Is = !f.Is
	case 3:
		f.Const = []uint64{0, 255, 256, 1 << 16, 1 << 32, 1<<64 - 1}[r.Intn(6)]
	case 4:
		f.Auto = r.Intn(8) - 1
	case 5:
		f.A = someName(r)
	case 6:
		f.B = someName(r)
	case 7:
		f.E = r.Intn(12) - 2
	case 8:
		f.Rec = someName(r)
	case 9:
		f.At = someName(r)
	case 10:
		f.Shared = !f.Shared
	case 11:
		f.Align = []int{-1, 0, 1, 4095, 4096, 4097}[r.Intn(6)]
	case 12:
		f.Cases = append(f.Cases, api.Case{N: uint64(r.Intn(5)), Rec: someName(r)})
	case 13:
		f.Else = someName(r)
	}
}

// someName is mostly a name that samples have.
func someName(r *rand.Rand) string {
	return []string{"", "1", "none", "last", "int", "f0", "f1", "f2", "f3", "f4", "f5", "r0", "r1", "r2", "r3", "r4"}[r.Intn(16)]
}
