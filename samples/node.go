package samples

import (
	"slices"

	"mortise/api"
	"mortise/exp"
)

const (
	mostNodes  = 120 // records of a node
	mostLength = 40  // bytes that follow from an expression
	mostCount  = 8   // records that follow from an expression
)

// grower makes one node of a description.
type grower struct {
	api.Desc
	choose func(n int) int
	left   int // how many records may still follow from expressions
}

// Node returns a node that mostly matches the first record of a valid description, where choose tells which of n choices is taken. Its lengths are those that its integers ask for, if these are small; a computed integer is taken to be what its node says.
func Node(choose func(n int) int, d api.Desc) api.Node {
	g := &grower{Desc: d, choose: choose, left: mostNodes}
	return g.record(d.Recs[0].Name)
}

func (g *grower) record(name string) api.Node {
	r := g.Recs[slices.IndexFunc(g.Recs, func(r api.Rec) bool { return r.Name == name })]
	var node api.Node
	var ints []api.Bind
	for _, f := range r.Fields {
		x := g.field(f, ints)
		if f.Kind == api.FInt {
			ints = append(ints, api.Bind{Name: f.Name, N: x.N})
		}
		node.L = append(node.L, x)
	}
	return node
}

func (g *grower) field(f api.Field, ints []api.Bind) api.Node {
	switch f.Kind {
	case api.FInt:
		return api.Node{N: g.number(f)}
	case api.FBytes:
		return api.Node{S: g.bytes(g.length(f, ints, mostLength))}
	case api.FRest:
		return api.Node{S: g.bytes(g.choose(6))}
	case api.FRec:
		return g.record(f.Rec)
	case api.FArray:
		return g.records(f.Rec, g.length(f, ints, mostCount))
	case api.FFill:
		return g.records(f.Rec, g.choose(4))
	case api.FPick:
		return g.pick(f, ints)
	}
	return api.Node{}
}

// number is mostly small, so that what follows from it is small too.
func (g *grower) number(f api.Field) uint64 {
	switch k := g.choose(30); {
	case f.Is:
		return f.Const
	case k == 0:
		return uint64(g.choose(256))
	case k == 1 && f.Width > 1:
		return uint64(1)<<(8*f.Width) - 1 + uint64(g.choose(2)) // the greatest one that fits, or one more
	}
	return uint64(g.choose(6))
}

// length is the value of a field's expression, or some small number if it has none, or one that is too great.
func (g *grower) length(f api.Field, ints []api.Bind, most int) int {
	n, e := exp.Eval(g.Exps, f.E, ints)
	if e != api.OK || n > uint64(most) {
		return g.choose(4)
	}
	return int(n)
}

func (g *grower) bytes(n int) string {
	b := make([]byte, n)
	for i := range b {
		b[i] = byte('a' + g.choose(26))
	}
	return string(b)
}

func (g *grower) records(name string, n int) api.Node {
	var all api.Node
	for range n {
		if g.left == 0 {
			break
		}
		g.left--
		all.L = append(all.L, g.record(name))
	}
	return all
}

// pick is one of the cases if the expression's value leads to none. Where there are none at all, no node matches.
func (g *grower) pick(f api.Field, ints []api.Bind) api.Node {
	n, e := exp.Eval(g.Exps, f.E, ints)
	name := f.Else
	if e != api.OK || name == "" && !slices.ContainsFunc(f.Cases, func(c api.Case) bool { return c.N == n }) {
		n = 0
		if len(f.Cases) > 0 {
			n = f.Cases[g.choose(len(f.Cases))].N
		}
	}
	for _, c := range f.Cases {
		if c.N == n {
			name = c.Rec
		}
	}
	if name == "" {
		return api.Node{N: n}
	}
	return api.Node{N: n, L: []api.Node{g.record(name)}}
}
