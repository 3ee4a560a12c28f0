package lazy

import (
	"slices"

	"mortise/api"
	"mortise/exp"
)

// spot is a record at an offset, with what is known of it so far.
type spot struct {
	*search
	api.Rec
	starts []int      // where each field would be read without an At, and behind the last one where the record ends: as far as was passed
	ints   []api.Bind // those of its integers that were read
}

func (s *search) spot(name string, at int) *spot {
	return &spot{search: s, Rec: s.find(name), starts: []int{at}}
}

// part returns the part to which a path leads, if one is possible.
func (p *spot) part(path []int) api.Node {
	if len(path) == 0 {
		node, _ := p.all(true)
		return node
	}
	f, rest := p.Fields[path[0]], path[1:]
	if len(rest) == 0 {
		return p.own(f)
	}
	switch f.Kind {
	case api.FRec:
		return p.spot(f.Rec, p.begin(f)).part(rest)
	case api.FPick:
		_, name := p.choose(f)
		demand(p.possible(name, rest[1:]), api.ErrArg)
		return p.spot(name, p.begin(f)).part(rest[1:])
	}
	return p.element(f, rest[0]).part(rest[1:])
}

// own returns the node of a field.
func (p *spot) own(f api.Field) api.Node {
	if f.Kind == api.FAlign {
		// Wherever it is, its node is the zero one.
		return api.Node{}
	}
	node, _ := p.field(f, p.begin(f), true)
	return node
}

// element returns the record with the index i in the list of a field.
func (p *spot) element(f api.Field, i int) *spot {
	more := p.more(f)
	demand(f.Kind == api.FFill || more(i, 0), api.ErrArg)
	at := p.begin(f)
	for k := 0; k < i && more(k, at); k++ {
		p.spend()
		_, at = p.spot(f.Rec, at).all(false)
	}
	demand(more(i, at), api.ErrArg)
	return p.spot(f.Rec, at)
}

// begin returns where a field is read.
func (p *spot) begin(f api.Field) int {
	if f.At != "" {
		return p.behind(0, p.named(f.At))
	}
	return p.start(p.index(f.Name))
}

// start returns where the field with the index i would be read without an At.
func (p *spot) start(i int) int {
	for k := len(p.starts) - 1; k < i; k++ {
		p.pass(k, false)
	}
	return p.starts[i]
}

// index returns that of the field of this name, which a valid description has.
func (p *spot) index(name string) int {
	return slices.IndexFunc(p.Fields, func(f api.Field) bool { return f.Name == name })
}

// all passes all fields, and returns their node if it is asked for, and where the record ends.
func (p *spot) all(read bool) (api.Node, int) {
	var node api.Node
	for i := range p.Fields {
		x := p.pass(i, read)
		if read {
			node.L = append(node.L, x)
		}
	}
	return node, p.start(len(p.Fields))
}

// pass passes the first field that was not passed yet, and returns its node if it is asked for.
func (p *spot) pass(i int, read bool) api.Node {
	p.spend()
	f, at := p.Fields[i], p.starts[i]
	var node api.Node
	if f.At == "" {
		node, at = p.field(f, at, read)
	} else if read {
		node, _ = p.field(f, p.begin(f), true)
	}
	p.starts = append(p.starts, at)
	return node
}

// field returns a field's node if it is asked for, and where the field ends.
func (p *spot) field(f api.Field, at int, read bool) (api.Node, int) {
	switch f.Kind {
	case api.FInt:
		return p.integer(f, at, read)
	case api.FBytes:
		return p.bytes(at, p.evaluate(f), read)
	case api.FRest:
		return p.bytes(at, uint64(p.source.Len()-at), read)
	case api.FRec:
		return p.spot(f.Rec, at).all(read)
	case api.FArray, api.FFill:
		return p.records(f, at, read)
	case api.FPick:
		return p.pick(f, at, read)
	}
	return api.Node{}, p.align(at, f.Align)
}

func (p *spot) integer(f api.Field, at int, read bool) (api.Node, int) {
	end := p.behind(at, uint64(f.Width))
	if !read {
		return api.Node{}, end
	}
	return api.Node{N: p.named(f.Name)}, end
}

func (p *spot) bytes(at int, n uint64, read bool) (api.Node, int) {
	end := p.behind(at, n)
	if !read {
		return api.Node{}, end
	}
	return api.Node{S: p.text(at, end)}, end
}

func (p *spot) records(f api.Field, at int, read bool) (api.Node, int) {
	var all api.Node
	more := p.more(f)
	for i := 0; more(i, at); i++ {
		p.spend()
		node, end := p.spot(f.Rec, at).all(read)
		if read {
			all.L = append(all.L, node)
		}
		at = end
	}
	return all, at
}

// more tells whether there is a record with the index i, where the one before it ended at an offset.
func (p *spot) more(f api.Field) func(i int, at int) bool {
	if f.Kind == api.FFill {
		return func(_ int, at int) bool { return at < p.source.Len() }
	}
	n := p.evaluate(f)
	return func(i int, _ int) bool { return uint64(i) < n }
}

func (p *spot) pick(f api.Field, at int, read bool) (api.Node, int) {
	n, name := p.choose(f)
	node, end := p.spot(name, at).all(read)
	if !read {
		return api.Node{}, end
	}
	return api.Node{N: n, L: []api.Node{node}}, end
}

// choose returns the number by which a field picks a record, and the record's name.
func (p *spot) choose(f api.Field) (uint64, string) {
	n := p.evaluate(f)
	name := f.Else
	for _, c := range f.Cases {
		if c.N == n {
			name = c.Rec
		}
	}
	demand(name != "", api.ErrForm)
	return n, name
}

// named returns the number of the integer of this name, before which everything is passed to find it.
func (p *spot) named(name string) uint64 {
	if k := slices.IndexFunc(p.ints, func(b api.Bind) bool { return b.Name == name }); k >= 0 {
		return p.ints[k].N
	}
	i := p.index(name)
	f := p.Fields[i]
	n := p.number(place{at: p.start(i), width: f.Width, big: f.Big})
	demand(!f.Is || n == f.Const, api.ErrForm)
	p.ints = append(p.ints, api.Bind{Name: name, N: n})
	return n
}

// evaluate returns the value of a field's expression, for which only the integers are read that it uses.
func (p *spot) evaluate(f api.Field) uint64 {
	used := make([]bool, f.E+1)
	used[f.E] = true
	// The parts of an operator precede it, so whatever uses an element was met before it.
	for k := f.E; k >= 0; k-- {
		x := p.desc.Exps[k]
		if !used[k] {
			continue
		}
		if x.Op != "" {
			used[x.L], used[x.R] = true, true
		}
		if x.Name != "" {
			p.named(x.Name)
		}
	}
	n, e := exp.Eval(p.desc.Exps, f.E, p.ints)
	demand(e == api.OK, e)
	return n
}
