package parse

import (
	"slices"

	"mortise/api"
)

// record is one that is being read, with what is known of the fields that were read so far.
type record struct {
	api.Rec
	nodes   []api.Node
	extents []api.Span
	ints    []api.Bind
}

// add appends what was read of the next field.
func (r *record) add(f api.Field, node api.Node, extent api.Span) {
	r.nodes = append(r.nodes, node)
	r.extents = append(r.extents, extent)
	if f.Kind == api.FInt {
		r.ints = append(r.ints, api.Bind{Name: f.Name, N: node.N})
	}
}

// index returns that of the field of this name, which a valid description has.
func (r *record) index(name string) int {
	return slices.IndexFunc(r.Fields, func(f api.Field) bool { return f.Name == name })
}

func (r *record) number(name string) uint64 { return r.nodes[r.index(name)].N }

func (r *record) size(name string) int {
	x := r.extents[r.index(name)]
	return x.Hi - x.Lo
}

func (r *record) count(name string) int { return len(r.nodes[r.index(name)].L) }
