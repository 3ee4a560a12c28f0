package exp

import (
	"math"
	"math/rand"
	"slices"
	"testing"

	"mortise/api"
)

func wantsEval(t *testing.T, l []api.Exp, i int, names []api.Bind, n uint64, e api.Errno) {
	t.Helper()
	if m, f := Eval(l, i, names); m != n || f != e {
		t.Errorf("%.200v, %d, %v: %d, %d, not %d, %d", l, i, names, m, f, n, e)
	}
}

// sameValue holds Eval against the model.
func sameValue(t *testing.T, l []api.Exp, i int, names []api.Bind) api.Errno {
	t.Helper()
	var want uint64
	n, e := modelEval(treeOf(l, i), names)
	if e == api.OK {
		want = n.Uint64()
	}
	wantsEval(t, l, i, names, want, e)
	return e
}

func TestP11_3Errors(t *testing.T) {
	bad := []api.Exp{num(1), op("^", 0, 0)}
	good := []api.Exp{num(1), op("+", 0, 0)}
	for _, i := range []int{math.MinInt, -1, 2, 3, math.MaxInt} {
		wantsEval(t, good, i, nil, 0, api.ErrArg)
		wantsEval(t, bad, i, nil, 0, api.ErrType) // ahead of all other errors
		wantsEval(t, nil, i, nil, 0, api.ErrArg)
	}
	wantsEval(t, bad, 0, nil, 0, api.ErrType)
	wantsEval(t, bad, 1, nil, 0, api.ErrType)
	wantsEval(t, nil, 0, nil, 0, api.ErrArg)
	wantsEval(t, make([]api.Exp, 401), 0, nil, 0, api.ErrType)
	wantsEval(t, []api.Exp{num(most + 1)}, 0, nil, 0, api.ErrType)
}

func TestP11_3Names(t *testing.T) {
	names := []api.Bind{{Name: "a", N: 7}, {Name: "b", N: most}, {Name: "c", N: most + 1}, {Name: "a", N: 8}, {Name: "c", N: 3}, {Name: "d", N: math.MaxUint64}, {Name: "", N: 9}, {Name: "A", N: 10}}
	for s, want := range map[string]struct {
		n uint64
		e api.Errno
	}{
		"a": {7, 0}, "b": {most, 0}, "A": {10, 0},
		"c": {0, api.ErrForm}, "d": {0, api.ErrForm}, // the first element of this name counts
		"e": {0, api.ErrType}, "aa": {0, api.ErrType}, "B": {0, api.ErrType},
		"a + a": {14, 0}, "0 * c": {0, api.ErrForm}, "0 * e": {0, api.ErrType}, "0 & e": {0, api.ErrType}, "e - e": {0, api.ErrType},
		"c * e": {0, api.ErrForm}, "e * c": {0, api.ErrType}, // the left one is evaluated first
		"1 / 0 + e": {0, api.ErrForm}, "e + 1 / 0": {0, api.ErrType}, "e / 0": {0, api.ErrType}, "0 / e": {0, api.ErrType},
		"0 << e": {0, api.ErrType}, "0 - 1 == e": {0, api.ErrForm}, "1 == 1 | e": {0, api.ErrType}, "a / (a - a)": {0, api.ErrForm},
	} {
		l, _ := Parse(s)
		wantsEval(t, l, len(l)-1, names, want.n, want.e)
		wantsEval(t, l, len(l)-1, append(slices.Clone(names), api.Bind{Name: "z", N: 1}), want.n, want.e)
	}
	wantsEval(t, []api.Exp{name("a")}, 0, nil, 0, api.ErrType)
	wantsEval(t, []api.Exp{name("a")}, 0, []api.Bind{}, 0, api.ErrType)
}

func TestP11_3Operators(t *testing.T) {
	for s, want := range map[string]struct {
		n uint64
		e api.Errno
	}{
		"1 + 2 * 5": {11, 0}, "(1 + 2) * 5": {15, 0}, "3 - 4": {0, api.ErrForm}, "4 - 4": {0, 0}, "1 << 62": {most, 0}, "1 << 63": {0, api.ErrForm},
		"4611686018427387903 + 1": {most, 0}, "4611686018427387904 + 1": {0, api.ErrForm}, "4611686018427387904 + 0": {most, 0},
		"4611686018427387904 + 4611686018427387904": {0, api.ErrForm}, "0 - 1": {0, api.ErrForm}, "0 - 4611686018427387904": {0, api.ErrForm}, "4611686018427387904 - 1": {most - 1, 0},
		"2147483648 * 2147483648": {most, 0}, "2147483648 * 2147483649": {0, api.ErrForm}, "4294967296 * 4294967296": {0, api.ErrForm}, "4611686018427387904 * 4": {0, api.ErrForm},
		"4611686018427387904 * 4611686018427387904": {0, api.ErrForm}, "4611686018427387904 * 1": {most, 0}, "0 * 4611686018427387904": {0, 0}, "4611686018427387904 * 0": {0, 0}, "3 * 1537228672809129301": {most - 1, 0}, "3 * 1537228672809129302": {0, api.ErrForm},
		"7 / 2": {3, 0}, "6 / 2": {3, 0}, "0 / 5": {0, 0}, "5 / 0": {0, api.ErrForm}, "0 / 0": {0, api.ErrForm}, "4611686018427387904 / 1": {most, 0}, "1 / 4611686018427387904": {0, 0},
		"7 % 4": {3, 0}, "8 % 4": {0, 0}, "5 % 0": {0, api.ErrForm}, "0 % 0": {0, api.ErrForm}, "3 % 4611686018427387904": {3, 0},
		"3 << 0": {3, 0}, "3 << 60": {3 << 60, 0}, "3 << 61": {0, api.ErrForm}, "2 << 61": {most, 0}, "2 << 62": {0, api.ErrForm}, "1 << 64": {0, api.ErrForm}, "1 << 4611686018427387904": {0, api.ErrForm}, "4 << 62": {0, api.ErrForm}, "4 << 63": {0, api.ErrForm},
		"0 << 0": {0, 0}, "0 << 62": {0, 0}, "0 << 63": {0, 0}, "0 << 64": {0, 0}, "0 << 4611686018427387904": {0, 0}, "4611686018427387904 << 0": {most, 0}, "4611686018427387904 << 1": {0, api.ErrForm},
		"7 >> 0": {7, 0}, "7 >> 1": {3, 0}, "4611686018427387904 >> 62": {1, 0}, "4611686018427387904 >> 63": {0, 0}, "4611686018427387904 >> 64": {0, 0}, "4611686018427387904 >> 4611686018427387904": {0, 0}, "1 >> 65": {0, 0},
		"12 & 10": {8, 0}, "12 | 10": {14, 0}, "4611686018427387904 | 1": {0, api.ErrForm}, "4611686018427387904 | 4611686018427387904": {most, 0}, "4611686018427387904 | 0": {most, 0}, "4611686018427387904 & 4611686018427387903": {0, 0}, "4611686018427387903 | 1": {most - 1, 0},
		"1 == 1": {1, 0}, "1 == 2": {0, 0}, "1 != 1": {0, 0}, "1 != 2": {1, 0}, "1 < 2": {1, 0}, "2 < 2": {0, 0}, "3 < 2": {0, 0}, "3 < 2 == 0": {1, 0},
	} {
		l, e := Parse(s)
		if e != api.OK {
			t.Fatalf("%q: %d", s, e)
		}
		wantsEval(t, l, len(l)-1, nil, want.n, want.e)
		sameValue(t, l, len(l)-1, nil)
	}
}

// TestP11_3Edges: each operator of all pairs of numbers that are near an edge.
func TestP11_3Edges(t *testing.T) {
	var all []uint64
	for _, n := range []uint64{0, 1, 2, 3, 5, 31, 32, 61, 62, 63, 64, 65, 1 << 16, 1 << 31, 1<<31 + 1, 1 << 32, 1 << 61, 3 << 60, most - 2, most - 1, most} {
		all = append(all, n, most-n)
	}
	for _, a := range all {
		for _, b := range all {
			for _, s := range allSigns() {
				sameValue(t, []api.Exp{num(a), num(b), op(s, 0, 1)}, 2, nil)
			}
		}
	}
}

func TestP11_3RandomLists(t *testing.T) {
	random := rand.New(rand.NewSource(6))
	names := []api.Bind{{Name: "a", N: 3}, {Name: "n", N: most}, {Name: "a", N: 4}, {Name: "_", N: most + 1}, {Name: name16, N: 0}, {Name: "_", N: 1}}
	seen := map[api.Errno]int{}
	for range 30000 {
		l := randomList(random, 1+random.Intn(9))
		seen[sameValue(t, l, random.Intn(len(l)), names)]++
		seen[sameValue(t, l, len(l)-1, names[:random.Intn(len(names))])]++
	}
	for _, e := range []api.Errno{api.OK, api.ErrForm, api.ErrType} {
		if seen[e] < 1000 {
			t.Errorf("error %d: %d times", e, seen[e])
		}
	}
}

// TestP11_3OnlyItsParts: what is no part of an expression may have no value.
func TestP11_3OnlyItsParts(t *testing.T) {
	l := []api.Exp{name("none"), num(0), op("/", 1, 1), num(4), op("+", 3, 3), op("-", 1, 4)}
	for i, want := range []struct {
		n uint64
		e api.Errno
	}{{0, api.ErrType}, {0, 0}, {0, api.ErrForm}, {4, 0}, {8, 0}, {0, api.ErrForm}} {
		wantsEval(t, l, i, nil, want.n, want.e)
	}
}

// TestP11_3Shared: an element that is part of very many others is evaluated all the same.
func TestP11_3Shared(t *testing.T) {
	l := doubled(400)
	l[0] = num(0)
	wantsEval(t, l, 399, nil, 0, api.OK)
	l[0] = num(1)
	wantsEval(t, l, 62, nil, most, api.OK)
	wantsEval(t, l, 63, nil, 0, api.ErrForm)
	wantsEval(t, l, 399, nil, 0, api.ErrForm)
	l[0] = name("n")
	wantsEval(t, l, 399, nil, 0, api.ErrType)
	wantsEval(t, l, 62, []api.Bind{{Name: "n", N: 1}}, most, api.OK)
	wantsEval(t, l, 399, []api.Bind{{Name: "n"}}, 0, api.OK)
}

func TestR5OfEval(t *testing.T) {
	l := []api.Exp{name("a"), num(2), op("*", 0, 1)}
	names := []api.Bind{{Name: "a", N: 4}, {Name: "a", N: 5}}
	for range 2 {
		wantsEval(t, l, 2, names, 8, api.OK)
		wantsEval(t, l, 2, names[1:], 10, api.OK)
		wantsEval(t, l, 2, nil, 0, api.ErrType)
	}
	if !slices.Equal(l, []api.Exp{name("a"), num(2), op("*", 0, 1)}) || !slices.Equal(names, []api.Bind{{Name: "a", N: 4}, {Name: "a", N: 5}}) {
		t.Errorf("%v, %v", l, names)
	}
}

func TestExamplesOfTheChapter(t *testing.T) {
	n := []api.Bind{{Name: "n", N: 5}}
	for s, want := range map[string]uint64{"1 + 2 * n": 11, "(1 + 2) * n": 15, "1 << 62": 4611686018427387904} {
		l, _ := Parse(s)
		wantsEval(t, l, len(l)-1, n, want, api.OK)
	}
	for _, s := range []string{"3 - 4", "1 << 63"} {
		l, _ := Parse(s)
		wantsEval(t, l, len(l)-1, n, 0, api.ErrForm)
	}
}
