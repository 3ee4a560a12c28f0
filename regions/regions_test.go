package regions

import (
	"math"
	"slices"
	"testing"

	"mortise/api"
)

const most = 1 << 62

// entry is one span of the model.
type entry struct {
	api.Span
	x int
}

// model is a set as the chapter tells it: a list in no order, all of which is asked every time.
type model []entry

func (m *model) add(lo int, hi int, x int) api.Errno {
	if !forms(lo, hi) {
		return api.ErrArg
	}
	for _, e := range *m {
		if lo < e.Hi && e.Lo < hi {
			return api.ErrOverlap
		}
	}
	*m = append(*m, entry{api.Span{Lo: lo, Hi: hi}, x})
	return api.OK
}

func forms(lo int, hi int) bool { return lo >= 0 && lo < hi && hi <= most }

func (m model) ascending() model {
	l := slices.Clone(m)
	slices.SortFunc(l, func(a, b entry) int { return a.Lo - b.Lo })
	return l
}

func (m model) find(at int) (int, bool) {
	for _, e := range m {
		if e.Lo <= at && at < e.Hi {
			return e.x, true
		}
	}
	return 0, false
}

// gaps cuts lo to hi at each span's ends, so that every piece is covered wholly or not at all; it gives the gaps, and how many bytes are covered.
func (m model) gaps(lo int, hi int) ([]api.Span, int) {
	if !forms(lo, hi) {
		return nil, 0
	}
	cuts := []int{lo, hi}
	for _, e := range m {
		for _, at := range []int{e.Lo, e.Hi} {
			if lo < at && at < hi {
				cuts = append(cuts, at)
			}
		}
	}
	slices.Sort(cuts)
	var l []api.Span
	covered := 0
	for i, at := range cuts[:len(cuts)-1] {
		if _, ok := m.find(at); ok {
			covered += cuts[i+1] - at
		} else if n := len(l); n > 0 && l[n-1].Hi == at {
			l[n-1].Hi = cuts[i+1]
		} else if at < cuts[i+1] {
			l = append(l, api.Span{Lo: at, Hi: cuts[i+1]})
		}
	}
	return l, covered
}

// same holds everything that a set tells of these places against the model.
func same(t *testing.T, s *Set[int], m model, places []int) {
	t.Helper()
	if s.Len() != len(m) {
		t.Fatalf("%v: Len %d", m, s.Len())
	}
	l := m.ascending()
	for i := -2; i < len(l)+3; i++ {
		want, ok := entry{}, i >= 0 && i < len(l)
		if ok {
			want = l[i]
		}
		if span, x, k := s.At(i); span != want.Span || x != want.x || k != ok {
			t.Fatalf("%v: At(%d): %v, %d, %v", m, i, span, x, k)
		}
	}
	for _, lo := range places {
		want, ok := m.find(lo)
		if x, k := s.Find(lo); x != want || k != ok {
			t.Fatalf("%v: Find(%d): %d, %v", m, lo, x, k)
		}
		for _, hi := range places {
			sameOf(t, s, m, lo, hi)
		}
	}
}

func sameOf(t *testing.T, s *Set[int], m model, lo int, hi int) {
	t.Helper()
	gaps, covered := m.gaps(lo, hi)
	if l := s.Gaps(lo, hi); !slices.Equal(l, gaps) {
		t.Fatalf("%v: Gaps(%d, %d): %v, not %v", m, lo, hi, l, gaps)
	}
	if n := s.Covered(lo, hi); n != covered {
		t.Fatalf("%v: Covered(%d, %d): %d, not %d", m, lo, hi, n, covered)
	}
	if k := s.Clash(lo, hi); k != (covered > 0) {
		t.Fatalf("%v: Clash(%d, %d): %v", m, lo, hi, k)
	}
}

// both adds the same span to the set and to the model.
func both(t *testing.T, s *Set[int], m *model, lo int, hi int, x int) {
	t.Helper()
	want := m.add(lo, hi, x)
	if e := s.Add(lo, hi, x); e != want {
		t.Fatalf("%v: Add(%d, %d): %d, not %d", *m, lo, hi, e, want)
	}
}

func upTo(n int) []int {
	var l []int
	for i := -1; i <= n; i++ {
		l = append(l, i)
	}
	return l
}

func TestP4_1To3AllSmallSets(t *testing.T) {
	var spans []api.Span
	for lo := range 6 {
		for hi := lo + 1; hi < 7; hi++ {
			spans = append(spans, api.Span{Lo: lo, Hi: hi})
		}
	}
	for _, a := range spans {
		for _, b := range spans {
			for _, c := range spans {
				s, m := New[int](), model{}
				for i, p := range []api.Span{a, b, c} {
					both(t, s, &m, p.Lo, p.Hi, i+1)
				}
				same(t, s, m, upTo(8))
			}
		}
	}
}

func TestP4_1To3Edges(t *testing.T) {
	places := []int{math.MinInt, math.MinInt + 1, -most, -1, 0, 1, 2, 1 << 32, most - 2, most - 1, most, most + 1, math.MaxInt - 1, math.MaxInt}
	for _, lo := range places {
		for _, hi := range places {
			s, m := New[int](), model{}
			both(t, s, &m, lo, hi, 7)
			same(t, s, m, places)
			both(t, s, &m, hi, lo, 8)
			both(t, s, &m, 1, 2, 9)
			both(t, s, &m, most-2, most-1, 10)
			same(t, s, m, places)
		}
	}
	for _, i := range places {
		s := New[int]()
		s.Add(4, 5, 6)
		if span, x, ok := s.At(i); ok != (i == 0) || !ok && (span != api.Span{} || x != 0) {
			t.Errorf("At(%d): %v, %d, %v", i, span, x, ok)
		}
	}
}

// TestP4_1ArgumentsAheadOfOverlap: what forms no span overlaps nothing (R2), and changes nothing (R3).
func TestP4_1ArgumentsAheadOfOverlap(t *testing.T) {
	s, m := New[int](), model{}
	both(t, s, &m, 2, 4, 1)
	for _, c := range []struct {
		lo, hi int
		e      api.Errno
	}{{3, 3, api.ErrArg}, {4, 3, api.ErrArg}, {3, 2, api.ErrArg}, {-1, 3, api.ErrArg}, {3, most + 1, api.ErrArg}, {math.MinInt, math.MaxInt, api.ErrArg}, {2, 4, api.ErrOverlap}, {3, 4, api.ErrOverlap}, {2, 3, api.ErrOverlap}, {0, 3, api.ErrOverlap}, {3, 9, api.ErrOverlap}, {0, most, api.ErrOverlap}} {
		if e := s.Add(c.lo, c.hi, 2); e != c.e {
			t.Errorf("Add(%d, %d): %d, not %d", c.lo, c.hi, e, c.e)
		}
		same(t, s, m, upTo(6))
	}
	both(t, s, &m, 4, 5, 3)
	both(t, s, &m, 1, 2, 4)
	same(t, s, m, upTo(6))
}

func TestP4_1To3Nil(t *testing.T) {
	var s *Set[int]
	places := append(upTo(3), math.MinInt, math.MaxInt, most, most+1)
	same(t, s, nil, places)
	for _, lo := range places {
		for _, hi := range places {
			if e := s.Add(lo, hi, 1); e != api.ErrArg {
				t.Errorf("Add(%d, %d): %d", lo, hi, e)
			}
		}
	}
	same(t, s, nil, places)
	for _, i := range places {
		if _, _, ok := s.At(i); ok {
			t.Errorf("At(%d)", i)
		}
	}
}

// orders are all numbers below n, each in another order.
func orders(n int) map[string][]int {
	l := map[string][]int{}
	for i := range n {
		l["ascending"] = append(l["ascending"], i)
		l["descending"] = append(l["descending"], n-1-i)
		l["scattered"] = append(l["scattered"], i*1009%n) // n is no multiple of 1009
		l["towards the middle"] = append(l["towards the middle"], i%2*(n-1-i/2*2)+i/2)
		l["in runs"] = append(l["in runs"], i%50*(n/50)+i/50)
	}
	return l
}

// TestP4_4AnyOrder: of many spans, in whatever order they are added, the set tells the same.
func TestP4_4AnyOrder(t *testing.T) {
	const n = 20000
	for name, order := range orders(n) {
		s := New[int]()
		for _, i := range order {
			if e := s.Add(i*4+1, i*4+3, i); e != api.OK {
				t.Fatalf("%s: Add %d: %d", name, i, e)
			}
			if e := s.Add(i*4, i*4+2, -1); e != api.ErrOverlap {
				t.Fatalf("%s: Add %d again: %d", name, i, e)
			}
		}
		if s.Len() != n || s.Covered(0, most) != 2*n || s.Covered(2, n*4-2) != 2*n-2 {
			t.Fatalf("%s: Len %d, Covered %d", name, s.Len(), s.Covered(0, most))
		}
		for i := range n {
			if span, x, ok := s.At(i); span != (api.Span{Lo: i*4 + 1, Hi: i*4 + 3}) || x != i || !ok {
				t.Fatalf("%s: At(%d): %v, %d, %v", name, i, span, x, ok)
			}
			for at, want := range []bool{false, true, true, false} {
				x, ok := s.Find(i*4 + at)
				if ok != want || ok && x != i || !ok && x != 0 || s.Clash(i*4+at, i*4+at+1) != want {
					t.Fatalf("%s: Find(%d): %d, %v", name, i*4+at, x, ok)
				}
			}
		}
		gapsOfAll(t, name, s, n)
	}
}

func gapsOfAll(t *testing.T, name string, s *Set[int], n int) {
	t.Helper()
	l := s.Gaps(0, most)
	if len(l) != n+1 || l[0] != (api.Span{Lo: 0, Hi: 1}) || l[n] != (api.Span{Lo: n*4 - 1, Hi: most}) {
		t.Fatalf("%s: %d gaps, %v", name, len(l), l[len(l)-1])
	}
	for i, g := range l[1:n] {
		if g != (api.Span{Lo: i*4 + 3, Hi: i*4 + 5}) {
			t.Fatalf("%s: gap %d: %v", name, i+1, g)
		}
	}
	for i := 0; i < n-600; i += 7 { // across the bounds of whatever the spans are kept in
		if k := s.Gaps(i*4+2, (i+600)*4+2); len(k) != 600 || k[0] != l[i+1] || k[599] != l[i+600] || s.Covered(i*4+2, (i+600)*4+2) != 1200 {
			t.Fatalf("%s: %d gaps from span %d on", name, len(k), i)
		}
	}
}

// TestP4_4Together: gaps and covered bytes together are all bytes of a span, and the spans that adjoin leave no gap.
func TestP4_4Together(t *testing.T) {
	s := New[int]()
	state := uint32(1)
	next := func(n int) int {
		state = state*1664525 + 1013904223
		return int(state>>8) % n
	}
	for range 20000 {
		lo := next(30000)
		s.Add(lo, lo+1+next(9), lo)
	}
	for range 2000 {
		lo := next(30000)
		hi := lo + 1 + next(3000)
		n, end := s.Covered(lo, hi), lo-1
		for _, g := range s.Gaps(lo, hi) {
			if g.Lo <= end || g.Hi <= g.Lo || g.Hi > hi || s.Clash(g.Lo, g.Hi) {
				t.Fatalf("%d to %d: gap %v behind %d", lo, hi, g, end)
			}
			n += g.Hi - g.Lo
			end = g.Hi
		}
		if n != hi-lo {
			t.Fatalf("%d to %d: %d bytes", lo, hi, n)
		}
	}
	end := 0
	for i := range s.Len() {
		span, x, ok := s.At(i)
		if !ok || span.Lo < end || span.Hi <= span.Lo || x != span.Lo {
			t.Fatalf("%d: %v behind %d", i, span, end)
		}
		end = span.Hi
	}
}

// value is a type of some other shape, which can't be compared.
type value struct {
	name string
	path []int
}

func TestP4_2AnyType(t *testing.T) {
	s := New[value]()
	if s.Add(5, 9, value{"b", []int{2}}) != api.OK || s.Add(1, 3, value{name: "a"}) != api.OK || s.Add(2, 9, value{name: "c"}) != api.ErrOverlap {
		t.Fatal("Add")
	}
	if x, ok := s.Find(8); x.name != "b" || !slices.Equal(x.path, []int{2}) || !ok {
		t.Errorf("Find(8): %v, %v", x, ok)
	}
	if x, ok := s.Find(3); x.name != "" || x.path != nil || ok {
		t.Errorf("Find(3): %v, %v", x, ok)
	}
	if span, x, ok := s.At(0); span != (api.Span{Lo: 1, Hi: 3}) || x.name != "a" || !ok {
		t.Errorf("At(0): %v, %v, %v", span, x, ok)
	}
	if span, x, ok := s.At(2); span != (api.Span{}) || x.name != "" || x.path != nil || ok {
		t.Errorf("At(2): %v, %v, %v", span, x, ok)
	}
	calls := New[func() int]()
	calls.Add(0, 1, func() int { return 3 })
	if f, ok := calls.Find(0); !ok || f() != 3 {
		t.Error("a function")
	}
	if f, ok := calls.Find(1); ok || f != nil {
		t.Error("no function")
	}
	none := New[struct{}]()
	if none.Add(0, 1, struct{}{}) != api.OK || none.Add(0, 1, struct{}{}) != api.ErrOverlap || none.Len() != 1 {
		t.Error("values of no bytes")
	}
}

// TestR5NothingShared: a list that was handed out doesn't change the set, nor one set another.
func TestR5NothingShared(t *testing.T) {
	s, m := New[int](), model{}
	both(t, s, &m, 2, 4, 1)
	both(t, s, &m, 6, 8, 2)
	l := s.Gaps(0, 9)
	k := s.Gaps(0, 9)
	_ = append(l[:1], api.Span{Lo: 3, Hi: 3})
	for i := range l[:cap(l)] {
		l[:cap(l)][i] = api.Span{Lo: 5, Hi: 5}
	}
	if !slices.Equal(k, []api.Span{{Lo: 0, Hi: 2}, {Lo: 4, Hi: 6}, {Lo: 8, Hi: 9}}) {
		t.Errorf("%v", k)
	}
	same(t, s, m, upTo(10))
	other := New[int]()
	same(t, other, nil, upTo(10))
	other.Add(0, 9, 3)
	same(t, s, m, upTo(10))
}

func TestExamplesOfTheChapter(t *testing.T) {
	s := New[string]()
	if s.Add(2, 4, "a") != api.OK || s.Add(6, 8, "b") != api.OK {
		t.Error("Add")
	}
	if l := s.Gaps(0, 9); !slices.Equal(l, []api.Span{{Lo: 0, Hi: 2}, {Lo: 4, Hi: 6}, {Lo: 8, Hi: 9}}) {
		t.Errorf("Gaps: %v", l)
	}
	if n := s.Covered(0, 9); n != 4 {
		t.Errorf("Covered: %d", n)
	}
	if e := s.Add(3, 5, "c"); e != api.ErrOverlap {
		t.Errorf("Add 3 to 5: %d", e)
	}
	if e := s.Add(4, 6, "c"); e != api.OK {
		t.Errorf("Add 4 to 6: %d", e)
	}
}
