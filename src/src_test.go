package src

import (
	"math"
	"slices"
	"strings"
	"testing"

	"mortise/api"
)

// model is a source as the chapter tells it: steps in a list, and bytes taken one by one.
type model struct {
	text  string
	steps []api.Step
	reads []api.Span
}

func (m *model) readAt(at int, n int) (string, api.Errno) {
	if at < 0 || n < 0 || n > 1<<20 {
		return "", api.ErrArg
	}
	step := api.Step{}
	if len(m.steps) > 0 {
		step, m.steps = m.steps[0], m.steps[1:]
	}
	if step.Kind == 2 {
		return "", api.ErrFault
	}
	got, e := "", api.OK
	for i := at; i < len(m.text) && len(got) < n; i++ {
		got += m.text[i : i+1]
	}
	if step.Kind == 1 && step.N < len(got) {
		got = got[:step.N]
	} else if len(got) != n {
		e = api.ErrCut
	}
	if len(got) > 0 {
		m.reads = append(m.reads, api.Span{Lo: at, Hi: at + len(got)})
	}
	return got, e
}

func (m *model) full(at int, n int) (string, api.Errno) {
	got, e := m.readAt(at, n)
	for e == api.OK && len(got) < n {
		var more string
		more, e = m.readAt(at+len(got), n-len(got))
		got += more
	}
	if e != api.OK {
		return "", e
	}
	return got, e
}

// scripts are all scripts of three steps at most.
func scripts() [][]api.Step {
	kinds := []api.Step{{Kind: api.SrcWhole}, {Kind: api.SrcFault}}
	for n := range 4 {
		kinds = append(kinds, api.Step{Kind: api.SrcShort, N: n})
	}
	l := [][]api.Step{nil}
	for first := 0; len(l[first]) < 3; first++ {
		for _, k := range kinds {
			l = append(l, append(slices.Clone(l[first]), k))
		}
	}
	return l
}

func mustNew(t *testing.T, s string, script []api.Step) *Source {
	t.Helper()
	x, e := New(s, script)
	if x == nil || e != api.OK {
		t.Fatalf("New: %v, %d", x, e)
	}
	return x
}

// same holds everything that a source tells against the model.
func same(t *testing.T, s *Source, m *model) {
	t.Helper()
	if s.Len() != len(m.text) || s.Left() != len(m.steps) || !slices.Equal(s.Reads(), m.reads) {
		t.Errorf("%q: Len %d, Left %d, Reads %v, not %d, %v", m.text, s.Len(), s.Left(), s.Reads(), len(m.steps), m.reads)
	}
}

// both asks the source and the model the same.
func both(t *testing.T, s *Source, m *model, full bool, at int, n int) {
	t.Helper()
	got, want, e, wantE := "", "", api.OK, api.OK
	if full {
		got, e = s.Full(at, n)
		want, wantE = m.full(at, n)
	} else {
		got, e = s.ReadAt(at, n)
		want, wantE = m.readAt(at, n)
	}
	if got != want || e != wantE {
		t.Errorf("%q, full %v, at %d, %d bytes: %q, %d, not %q, %d", m.text, full, at, n, got, e, want, wantE)
	}
	same(t, s, m)
}

func TestP2_1New(t *testing.T) {
	for i, c := range []struct {
		script []api.Step
		e      api.Errno
	}{
		{nil, api.OK},
		{make([]api.Step, 1000), api.OK},
		{make([]api.Step, 1001), api.ErrArg},
		{[]api.Step{{Kind: api.SrcWhole}, {Kind: api.SrcShort}, {Kind: api.SrcFault}}, api.OK},
		{[]api.Step{{Kind: api.SrcShort, N: math.MaxInt}}, api.OK},
		{[]api.Step{{Kind: api.SrcShort, N: -1}}, api.ErrArg},
		{[]api.Step{{Kind: api.SrcShort, N: math.MinInt}}, api.ErrArg},
		{[]api.Step{{Kind: api.SrcWhole, N: 1}}, api.ErrArg},
		{[]api.Step{{Kind: api.SrcWhole, N: -1}}, api.ErrArg},
		{[]api.Step{{Kind: api.SrcFault, N: 1}}, api.ErrArg},
		{[]api.Step{{Kind: api.SrcFault, N: -1}}, api.ErrArg},
		{[]api.Step{{Kind: -1}}, api.ErrArg},
		{[]api.Step{{Kind: 3}}, api.ErrArg},
		{[]api.Step{{Kind: math.MaxInt}}, api.ErrArg},
		{[]api.Step{{}, {}, {Kind: 3}}, api.ErrArg},
	} {
		s, e := New("ab", c.script)
		if e != c.e || (s == nil) != (e != api.OK) {
			t.Errorf("case %d: %v, %d, not %d", i, s, e, c.e)
		}
		if s != nil && (s.Len() != 2 || s.Left() != len(c.script) || len(s.Reads()) != 0) {
			t.Errorf("case %d: Len %d, Left %d, Reads %v", i, s.Len(), s.Left(), s.Reads())
		}
	}
}

func TestP2_2To4AllSmallScripts(t *testing.T) {
	for _, script := range scripts() {
		for at := range 5 {
			for n := range 5 {
				for _, full := range []bool{false, true} {
					s, m := mustNew(t, "abc", script), &model{text: "abc", steps: script}
					for range 4 { // one more than there are steps
						both(t, s, m, full, at, n)
					}
					both(t, s, m, !full, 0, 2)
				}
			}
		}
	}
}

func TestP2_2Edges(t *testing.T) {
	text := strings.Repeat("0123456789abcdef", 1<<16+1)
	script := []api.Step{{Kind: api.SrcFault}, {Kind: api.SrcShort, N: math.MaxInt}, {Kind: api.SrcShort, N: 5}}
	for _, full := range []bool{false, true} {
		s, m := mustNew(t, text, script), &model{text: text, steps: script}
		for _, c := range [][2]int{{-1, 0}, {0, -1}, {math.MinInt, 1}, {0, math.MinInt}, {0, 1<<20 + 1}, {0, math.MaxInt}, {math.MaxInt, math.MaxInt}} {
			both(t, s, m, full, c[0], c[1]) // R3: no step is taken for these
		}
		if s.Left() != 3 {
			t.Errorf("Left %d", s.Left())
		}
		for _, c := range [][2]int{{0, 9}, {3, 6}, {3, 6}, {math.MaxInt, 1}, {math.MaxInt, 0}, {math.MaxInt, 1 << 20}, {len(text), 0}, {len(text), 1}, {len(text) - 1, 1}, {len(text) - 1, 2}} {
			both(t, s, m, full, c[0], c[1])
		}
		if got, e := s.ReadAt(16, 1<<20); len(got) != 1<<20 || got != text[16:] || e != api.OK {
			t.Errorf("a read of MaxRead bytes: %d, %d", len(got), e)
		}
	}
}

// TestP2_2CutAndFull: at the end, bytes stand beside ErrCut in ReadAt, and none in Full.
func TestP2_2CutAndFull(t *testing.T) {
	s := mustNew(t, "abcd", nil)
	if got, e := s.ReadAt(2, 3); got != "cd" || e != api.ErrCut {
		t.Errorf("%q, %d", got, e)
	}
	if got, e := s.Full(2, 3); got != "" || e != api.ErrCut {
		t.Errorf("%q, %d", got, e)
	}
	if l := s.Reads(); !slices.Equal(l, []api.Span{{Lo: 2, Hi: 4}, {Lo: 2, Hi: 4}}) {
		t.Errorf("%v", l)
	}
}

// TestP2_3OnlyWhatIsMissing: a fault in the midst gives no bytes, but what was read is told.
func TestP2_3OnlyWhatIsMissing(t *testing.T) {
	s := mustNew(t, "abcdef", []api.Step{{Kind: api.SrcShort, N: 2}, {Kind: api.SrcShort}, {Kind: api.SrcShort, N: 1}, {Kind: api.SrcFault}, {Kind: api.SrcShort, N: 4}})
	if got, e := s.Full(1, 5); got != "" || e != api.ErrFault || s.Left() != 1 {
		t.Errorf("%q, %d, %d", got, e, s.Left())
	}
	if l := s.Reads(); !slices.Equal(l, []api.Span{{Lo: 1, Hi: 3}, {Lo: 3, Hi: 4}}) {
		t.Errorf("%v", l)
	}
	if got, e := s.Full(1, 5); got != "bcdef" || e != api.OK || s.Left() != 0 {
		t.Errorf("%q, %d, %d", got, e, s.Left())
	}
	if l := s.Reads(); !slices.Equal(l[2:], []api.Span{{Lo: 1, Hi: 5}, {Lo: 5, Hi: 6}}) {
		t.Errorf("%v", l)
	}
	one := mustNew(t, "ab", []api.Step{{Kind: api.SrcShort}, {Kind: api.SrcFault}})
	if got, e := one.Full(0, 0); got != "" || e != api.OK || one.Left() != 1 {
		t.Errorf("no bytes: %q, %d, %d", got, e, one.Left())
	}
	if got, e := one.Full(0, 0); got != "" || e != api.ErrFault || one.Left() != 0 {
		t.Errorf("no bytes: %q, %d, %d", got, e, one.Left())
	}
}

func TestP2_4Nil(t *testing.T) {
	var s *Source
	for _, n := range []int{math.MinInt, -1, 0, 1, 1<<20 + 1, math.MaxInt} {
		if got, e := s.ReadAt(0, n); got != "" || e != api.ErrArg {
			t.Errorf("ReadAt: %q, %d", got, e)
		}
		if got, e := s.Full(0, n); got != "" || e != api.ErrArg {
			t.Errorf("Full: %q, %d", got, e)
		}
	}
	if s.Len() != 0 || s.Left() != 0 || len(s.Reads()) != 0 {
		t.Errorf("%d, %d, %v", s.Len(), s.Left(), s.Reads())
	}
}

// TestP2_5LongScripts: whatever the script, reading ends, and without faults all bytes that exist are there.
func TestP2_5LongScripts(t *testing.T) {
	text := strings.Repeat("some text. ", 100)
	for most := range 5 {
		script := make([]api.Step, api.MaxSteps)
		for i := range script {
			script[i] = api.Step{Kind: api.SrcShort, N: i % (most + 1)}
		}
		for _, n := range []int{0, 1, 500, len(text)} {
			s := mustNew(t, text, script)
			if got, e := s.Full(len(text)-n, n); got != text[len(text)-n:] || e != api.OK {
				t.Errorf("short by %d, %d bytes: %q, %d", most, n, got, e)
			}
			next := len(text) - n
			for _, x := range s.Reads() {
				if x.Lo != next || x.Hi <= x.Lo {
					t.Errorf("short by %d, %d bytes: %v behind %d", most, n, x, next)
				}
				next = x.Hi
			}
			if next != len(text) {
				t.Errorf("short by %d, %d bytes: read up to %d", most, n, next)
			}
		}
		if got, e := mustNew(t, text, script).Full(1, len(text)); got != "" || e != api.ErrCut {
			t.Errorf("short by %d, beyond the end: %q, %d", most, got, e)
		}
	}
}

// TestR5NothingShared: neither the caller's script nor a list that was handed out changes the source.
func TestR5NothingShared(t *testing.T) {
	script := []api.Step{{Kind: api.SrcShort, N: 1}, {Kind: api.SrcShort, N: 2}, {Kind: api.SrcShort, N: 3}}
	given := slices.Clone(script)
	s := mustNew(t, "abcdef", script)
	script[0], script[1] = api.Step{Kind: api.SrcFault}, api.Step{Kind: api.SrcFault}
	m := &model{text: "abcdef", steps: given}
	for range 3 {
		both(t, s, m, false, 0, 6)
		l := s.Reads()
		_ = append(l, api.Span{Lo: 8, Hi: 9})
		for i := range l {
			l[i] = api.Span{}
		}
		same(t, s, m)
	}
	if !slices.Equal(given, []api.Step{{Kind: api.SrcShort, N: 1}, {Kind: api.SrcShort, N: 2}, {Kind: api.SrcShort, N: 3}}) {
		t.Errorf("the script was changed: %v", given)
	}
}

// TestR6NoStateOutside: two sources of the same script answer alike, one between the other's reads.
func TestR6NoStateOutside(t *testing.T) {
	script := []api.Step{{Kind: api.SrcFault}, {Kind: api.SrcShort, N: 1}}
	a, b := mustNew(t, "abc", script), mustNew(t, "abc", script)
	ma, mb := &model{text: "abc", steps: script}, &model{text: "abc", steps: script}
	both(t, a, ma, false, 0, 2)
	both(t, b, mb, true, 0, 2)
	both(t, a, ma, true, 0, 2)
	both(t, b, mb, false, 0, 2)
	both(t, a, ma, false, 0, 2)
	both(t, b, mb, false, 0, 2)
}

func TestExamplesOfTheChapter(t *testing.T) {
	s := mustNew(t, "abcd", []api.Step{{Kind: api.SrcShort, N: 1}, {Kind: api.SrcFault}})
	for i, c := range []struct {
		at, n int
		want  string
		e     api.Errno
	}{{0, 3, "a", api.OK}, {0, 3, "", api.ErrFault}, {0, 3, "abc", api.OK}, {2, 3, "cd", api.ErrCut}} {
		if got, e := s.ReadAt(c.at, c.n); got != c.want || e != c.e {
			t.Errorf("read %d: %q, %d", i, got, e)
		}
	}
	short := mustNew(t, "abcd", []api.Step{{Kind: api.SrcShort, N: 1}})
	if got, e := short.Full(0, 4); got != "abcd" || e != api.OK {
		t.Errorf("%q, %d", got, e)
	}
}
