package layout

import (
	"slices"

	"mortise/api"
	"mortise/win"
)

// box is a field that is placed, with the bytes that it takes.
type box struct {
	api.Span
	field  *api.Field
	node   *api.Node
	number uint64 // of an integer
}

// waiting is a box that is placed when all that was met before it is.
type waiting struct {
	*box
	path   []int
	shared bool
}

// plan is a description, and what was placed so far of a node that matches it.
type plan struct {
	api.Desc
	limit   int
	end     int   // of everything that was placed
	rows    []row // in the order in which they were completed, so that each one precedes the one that it is in
	queue   []waiting
	path    []int // of the field that is placed
	shared  bool  // whether it is inside a shared one
	regions []api.Region
}

// find returns the record of this name, which a valid description has.
func (p *plan) find(name string) *api.Rec {
	return &p.Recs[slices.IndexFunc(p.Recs, func(r api.Rec) bool { return r.Name == name })]
}

// place places a node of the first record, and then all that waits; false if this takes more bytes than there may be.
func (p *plan) place(v *api.Node) bool {
	ok := p.record(p.Recs[0].Name, v)
queue:
	for ok && len(p.queue) > 0 {
		batch := p.queue
		p.queue = nil
		for _, w := range batch {
			p.path, p.shared = w.path, w.shared
			ok = p.put(w.box)
			if !ok {
				break queue
			}
		}
	}
	return ok
}

// record places a record's fields, one after the other.
func (p *plan) record(name string, v *api.Node) bool {
	fields := p.find(name).Fields
	boxes := make(row, len(fields))
	for i := range boxes {
		b := &boxes[i]
		b.field, b.node = &fields[i], &v.L[i]
		if !p.inside(i, func() bool { return p.meet(b) }) {
			return false
		}
	}
	p.rows = append(p.rows, boxes)
	return true
}

// inside places what is a step further down the path.
func (p *plan) inside(i int, place func() bool) bool {
	p.path = append(p.path, i)
	ok := place()
	p.path = p.path[:len(p.path)-1]
	return ok
}

// meet places a field, or lets it wait if it is not placed behind the one before it.
func (p *plan) meet(b *box) bool {
	if b.field.At == "" {
		return p.put(b)
	}
	p.queue = append(p.queue, waiting{box: b, path: slices.Clone(p.path), shared: p.shared || b.field.Shared})
	return true
}

// put places a field behind everything that was placed so far.
func (p *plan) put(b *box) bool {
	b.Lo = p.end
	ok := p.fill(b.field, b.node)
	b.Hi = p.end
	return ok
}

// fill takes the bytes of a field, and of what is in it.
func (p *plan) fill(f *api.Field, v *api.Node) bool {
	switch f.Kind {
	case api.FInt:
		return p.take(f.Width)
	case api.FRec:
		return p.record(f.Rec, v)
	case api.FArray, api.FFill:
		return p.records(f.Rec, v.L)
	case api.FPick:
		return p.records(choice(f, v.N), v.L)
	case api.FAlign:
		end, ok := win.Align(p.end, f.Align)
		return ok && p.take(end-p.end)
	}
	return p.take(len(v.S))
}

func (p *plan) records(name string, l []api.Node) bool {
	for i := range l {
		if !p.inside(i, func() bool { return p.record(name, &l[i]) }) {
			return false
		}
	}
	return true
}

// take takes the next n bytes for a field, which are its region unless it is shared.
func (p *plan) take(n int) bool {
	end, ok := win.Add(p.end, n)
	if !ok || end > p.limit {
		return false
	}
	if n > 0 && !p.shared {
		p.regions = append(p.regions, api.Region{Lo: p.end, Hi: end, Path: slices.Clone(p.path)})
	}
	p.end = end
	return true
}
