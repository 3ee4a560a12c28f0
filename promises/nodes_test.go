package promises

import (
	"math/rand"
	"slices"

	"mortise/api"
	"mortise/layout"
	"mortise/parse"
	"mortise/samples"
	"mortise/win"
)

// part is a part of a node, with the field that it is of; the field is the zero one for a record within a list.
type part struct {
	path   []int
	field  api.Field
	node   *api.Node
	shared bool
}

func record(d api.Desc, name string) []api.Field {
	return d.Recs[slices.IndexFunc(d.Recs, func(r api.Rec) bool { return r.Name == name })].Fields
}

// picked is the record that a field leads to for a node of it.
func picked(f api.Field, x *api.Node) string {
	for _, c := range f.Cases {
		if c.N == x.N {
			return c.Rec
		}
	}
	return f.Else
}

// fields are all parts of a node of a record that are of fields.
func fields(d api.Desc, name string, x *api.Node, path []int, shared bool) []part {
	var l []part
	for i, f := range record(d, name) {
		p := part{path: append(slices.Clone(path), i), field: f, node: &x.L[i], shared: shared || f.Shared}
		l = append(l, p)
		switch f.Kind {
		case api.FRec:
			l = append(l, fields(d, f.Rec, p.node, p.path, p.shared)...)
		case api.FArray, api.FFill, api.FPick:
			name := f.Rec
			if f.Kind == api.FPick {
				name = picked(f, p.node)
			}
			for k := range p.node.L {
				l = append(l, fields(d, name, &p.node.L[k], append(slices.Clone(p.path), k), p.shared)...)
			}
		}
	}
	return l
}

func parts(d api.Desc, x *api.Node) []part { return fields(d, d.Recs[0].Name, x, nil, false) }

// stored is how many regions there are of a part.
func (p part) stored() int {
	bytes := p.field.Kind == api.FInt || p.field.Kind == api.FBytes || p.field.Kind == api.FRest
	if p.shared || !bytes || p.field.Kind != api.FInt && p.node.S == "" {
		return 0
	}
	return 1
}

// at is the part of a node to which a path leads.
func at(x api.Node, path []int) api.Node {
	for _, i := range path {
		x = x.L[i]
	}
	return x
}

// placed is a description with a node that can be laid out, and its bytes.
type placed struct {
	d api.Desc
	v api.Node
	b string
}

// random returns one, in half of all cases with a field that stands elsewhere.
func random(r *rand.Rand) placed {
	elsewhere := r.Intn(2) == 0
	for {
		p := placed{d: samples.Desc(r.Intn)}
		if elsewhere && !slices.ContainsFunc(p.d.Recs[0].Fields, func(f api.Field) bool { return f.At != "" }) {
			continue
		}
		for range 20 {
			p.v = samples.Node(r.Intn, p.d)
			var e api.Errno
			p.b, _, e = layout.Layout(p.d, p.v, 3000)
			if e == api.OK {
				return p
			}
		}
	}
}

// spoiled is s with a byte changed, mostly to a small one, as offsets and lengths are, or cut, or with some more.
func spoiled(r *rand.Rand, s string) string {
	b := []byte(s)
	switch k := r.Intn(len(b) + 1); {
	case k == len(b), r.Intn(4) == 0:
		return s[:k] + string([]byte{byte(r.Intn(4)), byte(r.Intn(256))})
	case r.Intn(4) == 0:
		return s[:k]
	case r.Intn(4) == 0:
		b[k] = byte(r.Intn(256))
	default:
		b[k] = byte(r.Intn(min(256, len(b))))
	}
	return string(b)
}

// moved is the bytes with another offset of a field that stands elsewhere, if there is one.
func (p placed) moved(r *rand.Rand) string {
	x, l, _ := parse.Parse(p.d, p.b, api.MaxFuel)
	b := []byte(p.b)
	for _, y := range parts(p.d, &x) {
		k := slices.IndexFunc(l, func(g api.Region) bool { return slices.Equal(g.Path, y.path) })
		if y.field.Kind == api.FInt && y.field.Auto == api.AutoAt && k >= 0 {
			s, _ := win.Bytes(uint64(r.Intn(min(256, len(b)+1))), y.field.Width, y.field.Big)
			copy(b[l[k].Lo:], s)
		}
	}
	return string(b)
}
