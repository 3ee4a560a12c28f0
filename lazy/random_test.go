package lazy

import (
	"math/rand"
	"reflect"
	"slices"
	"testing"

	"mortise/api"
	"mortise/desc"
	"mortise/layout"
	"mortise/parse"
	"mortise/samples"
	"mortise/src"
)

// made is a description with bytes that can be parsed, the node that they stand for, and the regions where it is.
type made struct {
	d       api.Desc
	b       string
	x       api.Node
	regions []api.Region
	moved   bool // whether a field stands somewhere else than layout placed it
}

// find is the field to which a path leads through a node.
func find(d api.Desc, x api.Node, path []int) (api.Field, api.Node) {
	record := func(name string) []api.Field {
		return d.Recs[slices.IndexFunc(d.Recs, func(r api.Rec) bool { return r.Name == name })].Fields
	}
	fields := d.Recs[0].Fields
	for {
		f := fields[path[0]]
		x, path = x.L[path[0]], path[1:]
		if len(path) == 0 {
			return f, x
		}
		name := f.Rec
		if f.Kind == api.FPick {
			name = f.Else
			for _, c := range f.Cases {
				if c.N == x.N {
					name = c.Rec
				}
			}
		}
		if f.Kind != api.FRec {
			if x, path = x.L[path[0]], path[1:]; len(path) == 0 {
				return api.Field{}, x
			}
		}
		fields = record(name)
	}
}

// described is a description, more often than not one in which fields stand elsewhere, most of them shared ones.
func described(r *rand.Rand) api.Desc {
	for range 6 {
		d := samples.Desc(r.Intn)
		elsewhere := false
		for _, x := range d.Recs {
			for k := range x.Fields {
				f := &x.Fields[k]
				elsewhere = elsewhere || f.At != ""
				f.Shared = f.At != "" && r.Intn(4) > 0
			}
		}
		if elsewhere {
			return d
		}
	}
	return samples.Desc(r.Intn)
}

// sample returns one whose shared fields stand on others' bytes where they can, with bytes behind everything; false if nothing could be laid out.
func sample(r *rand.Rand) (made, bool) {
	m := made{d: described(r)}
	var e api.Errno
	for range 20 {
		m.b, m.regions, e = layout.Layout(m.d, samples.Node(r.Intn, m.d), 3000)
		if e == api.OK {
			break
		}
	}
	if e != api.OK {
		return m, false
	}
	if last := m.d.Recs[0].Fields; len(last) == 0 || last[len(last)-1].Kind != api.FRest && last[len(last)-1].Kind != api.FFill {
		m.b += "behind"[:r.Intn(7)]
	}
	m.x, m.regions, e = parse.Parse(m.d, m.b, api.MaxFuel)
	x := m.x
	for _, g := range m.regions {
		if f, _ := find(m.d, x, g.Path); f.Kind == api.FInt && f.Auto == api.AutoAt {
			m.move(r, f, g)
		}
	}
	return m, e == api.OK
}

// move lets a field stand somewhere else, if everything can be parsed then.
func (m *made) move(r *rand.Rand, f api.Field, g api.Region) {
	b := []byte(m.b)
	clear(b[g.Lo:g.Hi])
	low := g.Lo
	if f.Big {
		low = g.Hi - 1
	}
	for range 8 {
		b[low] = byte(r.Intn(min(256, len(b)+1)))
		x, regions, e := parse.Parse(m.d, string(b), api.MaxFuel)
		if e == api.OK && string(b) != m.b {
			m.b, m.x, m.regions, m.moved = string(b), x, regions, true
			return
		}
	}
}

// paths are those of all parts of a node.
func paths(x api.Node, path []int) [][]int {
	l := [][]int{path}
	for i := range x.L {
		l = append(l, paths(x.L[i], append(slices.Clone(path), i))...)
	}
	return l
}

// at is the part of a node to which a path leads; false if it leads to none.
func at(x api.Node, path []int) (api.Node, bool) {
	for _, i := range path {
		if i < 0 || i >= len(x.L) {
			return api.Node{}, false
		}
		x = x.L[i]
	}
	return x, true
}

// some is a path to a part, or one that may lead to none.
func some(r *rand.Rand, all [][]int) []int {
	path := slices.Clone(all[r.Intn(len(all))])
	if r.Intn(3) > 0 {
		return path
	}
	if len(path) > 0 && r.Intn(2) == 0 {
		path[r.Intn(len(path))] += r.Intn(4) - 1
	}
	for range r.Intn(3) {
		path = append(path, r.Intn(4)-1)
	}
	return path
}

func script(r *rand.Rand, faults bool) []api.Step {
	var l []api.Step
	for range r.Intn(40) {
		switch k := r.Intn(6); {
		case k == 0 && faults:
			l = append(l, fault())
		case k <= 3:
			l = append(l, short(r.Intn(3)))
		default:
			l = append(l, whole())
		}
	}
	return l
}

// answers holds Get of a path against the parsed node, where failed tells whether a read failed.
func (m made) answers(t *testing.T, r *Reader, path []int, failed func() bool) api.Errno {
	t.Helper()
	kept := r.Kept()
	got, e := r.Get(path)
	want, ok := at(m.x, path)
	text, _ := desc.Print(m.d)
	switch {
	case failed():
		ok = e == api.ErrFault
	case !ok:
		ok = e == api.ErrArg
	default:
		ok = e == api.OK && show(got) == show(want)
	}
	if !ok || e != api.OK && (r.Kept() != kept || show(got) != "0" || got.L != nil) || r.Kept() > api.MaxCache {
		t.Errorf("%s%q, %v: %s, %d, not %s", text, m.b, path, show(got), e, show(want))
	}
	return e
}

func TestP16_2Random(t *testing.T) {
	random := rand.New(rand.NewSource(162))
	n, errors, kinds, shared, moved := 0, map[api.Errno]int{}, map[int]int{}, 0, 0
	for range 2500 {
		m, ok := sample(random)
		if !ok {
			continue
		}
		n++
		if m.moved {
			moved++
		}
		r, _ := open(t, m.d, m.b, script(random, false)...)
		all := paths(m.x, nil)
		for _, path := range all {
			errors[m.answers(t, r, path, func() bool { return false })]++
			if len(path) > 0 {
				f, _ := find(m.d, m.x, path)
				kinds[f.Kind]++
				if f.Shared {
					shared++
				}
			}
			if random.Intn(10) == 0 {
				r.Forget()
			}
		}
		for range 20 {
			errors[m.answers(t, r, some(random, all), func() bool { return false })]++
		}
		if e := r.Validate(); e != api.OK {
			t.Error(e)
		}
	}
	if n < 1000 || errors[api.OK] < 1000 || errors[api.ErrArg] < 1000 || shared < 100 || moved < 100 {
		t.Errorf("%d: %v, %d, %d", n, errors, shared, moved)
	}
	for k := api.FInt; k <= api.FAlign; k++ {
		if kinds[k] < 50 {
			t.Errorf("kind %d: %d times", k, kinds[k])
		}
	}
}

// TestP16_2Faults: whatever a source returns, and whatever is cached or forgotten, the answer is the part or a failed read.
func TestP16_2Faults(t *testing.T) {
	random := rand.New(rand.NewSource(163))
	errors := map[api.Errno]int{}
	for range 2500 {
		m, ok := sample(random)
		if !ok {
			continue
		}
		steps := script(random, true)
		s, _ := src.New(m.b, steps)
		r, _ := Open(m.d, s)
		all := paths(m.x, nil)
		for range 30 {
			left := s.Left()
			failed := func() bool {
				done := steps[len(steps)-left : len(steps)-s.Left()]
				return slices.Contains(done, fault())
			}
			errors[m.answers(t, r, some(random, all), failed)]++
			if random.Intn(8) == 0 {
				r.Forget()
			}
			left = s.Left()
			if random.Intn(8) > 0 {
				continue
			}
			if e := r.Validate(); failed() && e != api.ErrFault || !failed() && e != api.OK {
				t.Error(e)
			}
		}
	}
	if errors[api.OK] < 1000 || errors[api.ErrArg] < 1000 || errors[api.ErrFault] < 1000 {
		t.Error(errors)
	}
}

// TestP16_2Wrong: what cannot be parsed ends too, with one of the results.
func TestP16_2Wrong(t *testing.T) {
	random := rand.New(rand.NewSource(164))
	for range 3000 {
		d := samples.Desc(random.Intn)
		b := make([]byte, random.Intn(30))
		for i := range b {
			b[i] = byte(random.Intn(1 + random.Intn(256)))
		}
		s, _ := src.New(string(b), script(random, true))
		r, _ := Open(d, s)
		for range 20 {
			path := make([]int, random.Intn(6))
			for i := range path {
				path[i] = random.Intn(3)
			}
			x, e := r.Get(path)
			if e != api.OK && (show(x) != "0" || x.L != nil) || !slices.Contains([]api.Errno{api.OK, api.ErrArg, api.ErrCut, api.ErrForm, api.ErrFuel, api.ErrFault}, e) {
				t.Errorf("%v: %s, %d", path, show(x), e)
			}
		}
		for s.Left() > 0 {
			_, _ = s.ReadAt(0, 1)
		}
		if _, _, e := parse.Parse(d, string(b), api.MaxFuel); r.Validate() != e { // P16.3
			t.Errorf("%q: %d, not %d", b, r.Validate(), e)
		}
	}
}

// TestP16_5Random: for an integer of the first record before which there are only integers and padding, no bytes but its own are read.
func TestP16_5Random(t *testing.T) {
	random := rand.New(rand.NewSource(165))
	n := 0
	for range 3000 {
		m, ok := sample(random)
		if !ok {
			continue
		}
		for i, f := range m.d.Recs[0].Fields {
			if f.Kind != api.FInt && f.Kind != api.FAlign {
				break
			}
			r, s := open(t, m.d, m.b, script(random, false)...)
			x, e := r.Get([]int{i})
			var own []api.Span
			k := slices.IndexFunc(m.regions, func(g api.Region) bool { return slices.Equal(g.Path, []int{i}) })
			if f.Kind == api.FInt {
				own = []api.Span{{Lo: m.regions[k].Lo, Hi: m.regions[k].Hi}}
			}
			if l := joined(s.Reads()); show(x) != show(m.x.L[i]) || e != api.OK || !slices.Equal(l, own) {
				t.Errorf("%v, %q, %d: %s, %d, %v", m.d, m.b, i, show(x), e, l)
			}
			n++
		}
	}
	if n < 1000 {
		t.Error(n)
	}
}

// TestR5Memory: arguments are as they were, and may be changed later; no list of a result shares memory with another one, nor with a later one.
func TestR5Memory(t *testing.T) {
	random := rand.New(rand.NewSource(166))
	for range 1000 {
		m, ok := sample(random)
		if !ok {
			continue
		}
		before := samples.Copy(m.d)
		s, _ := src.New(m.b, nil)
		r, _ := Open(m.d, s)
		if !reflect.DeepEqual(samples.Copy(m.d), before) {
			t.Errorf("%v, not %v", m.d, before)
		}
		for i := range m.d.Exps {
			m.d.Exps[i].N++
		}
		for i := range m.d.Recs {
			l := m.d.Recs[i].Fields
			for k := range l {
				l[k].Width++
				for j := range l[k].Cases {
					l[k].Cases[j].Rec = "no"
				}
				l[k].Rec = "no"
			}
			m.d.Recs[i].Name += "x"
		}
		for _, path := range paths(m.x, nil) {
			same := slices.Clone(path)
			x, e := r.Get(path)
			want, _ := at(m.x, same)
			if show(x) != show(want) || e != api.OK || !slices.Equal(path, same) {
				t.Errorf("%v: %s, %d, not %s", path, show(x), e, show(want))
			}
			spoil(&x, func(l *[]api.Node) { _ = append(*l, api.Node{N: 99}) })
			if show(x) != show(want) {
				t.Errorf("%v: %s, not %s", path, show(x), show(want))
			}
			spoil(&x, func(l *[]api.Node) { clear(*l) })
			if y, e := r.Get(path); show(y) != show(want) || e != api.OK { // R6
				t.Errorf("%v: %s, %d, not %s", path, show(y), e, show(want))
			}
		}
	}
}

// spoil calls a function with a pointer to each list of a node, the innermost ones first.
func spoil(x *api.Node, change func(*[]api.Node)) {
	for i := range x.L {
		spoil(&x.L[i], change)
	}
	change(&x.L)
}
