package samples

import (
	"slices"

	"mortise/api"
)

// compute makes some integers of a record computed ones. Checksums come last, as they ask which fields stand elsewhere.
func (m *maker) compute(l []api.Field) {
	for i := range l {
		if isPlain(l[i]) && m.likely(6) {
			m.point(l, i)
		}
	}
	for i := range l {
		if isPlain(l[i]) && !slices.Contains(m.used, l[i].Name) && m.likely(5) {
			m.sum(l, i)
		}
	}
}

func isPlain(f api.Field) bool {
	return f.Kind == api.FInt && f.Auto == api.AutoNone && !f.Is
}

// point makes an integer tell a field's size, count or offset, if the field that is chosen has one.
func (m *maker) point(l []api.Field, i int) {
	k := m.choose(len(l))
	switch a := &l[k]; a.Kind {
	case api.FInt, api.FAlign:
	case api.FBytes, api.FRec, api.FArray, api.FPick:
		if k > i && a.At == "" && !m.open && m.likely(6) {
			l[i].Auto, l[i].A = api.AutoAt, a.Name
			a.At, a.Shared = l[i].Name, m.likely(5)
			return
		}
		m.measure(&l[i], *a)
	default:
		m.measure(&l[i], *a)
	}
}

func (m *maker) measure(f *api.Field, a api.Field) {
	f.Auto, f.A = api.AutoSize, a.Name
	if (a.Kind == api.FArray || a.Kind == api.FFill) && m.likely(5) {
		f.Auto = api.AutoCount
	}
}

// sum makes an integer the checksum of some fields, if those that are chosen have one.
func (m *maker) sum(l []api.Field, i int) {
	from := m.choose(len(l))
	to := from + m.choose(len(l)-from)
	if l[from].At != "" || l[to].At != "" || from <= i && i <= to || slices.ContainsFunc(l[from:to+1], isSum) {
		return
	}
	// Another checksum may cover this one already.
	for _, f := range l {
		if isSum(f) && at(l, f.A) <= i && i <= at(l, f.B) {
			return
		}
	}
	l[i].Auto, l[i].A, l[i].B = api.AutoCrc+m.choose(2), l[from].Name, l[to].Name
	l[i].Width = 4
}

func isSum(f api.Field) bool { return f.Auto == api.AutoCrc || f.Auto == api.AutoAdler }

func at(l []api.Field, name string) int {
	return slices.IndexFunc(l, func(f api.Field) bool { return f.Name == name })
}
