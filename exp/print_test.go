package exp

import (
	"math"
	"math/rand"
	"slices"
	"strings"
	"testing"

	"mortise/api"
)

func wantsPrint(t *testing.T, l []api.Exp, i int, s string, e api.Errno) {
	t.Helper()
	if p, f := Print(l, i); p != s || f != e {
		t.Errorf("%.200v, %d: %.200q, %d, not %.200q, %d", l, i, p, f, s, e)
	}
}

// reprinted is what Print makes of a text.
func reprinted(t *testing.T, s string) string {
	t.Helper()
	l, e := Parse(s)
	if e != api.OK {
		t.Fatalf("%q: %d", s, e)
	}
	p, e := Print(l, len(l)-1)
	if e != api.OK {
		t.Errorf("%q: %d", s, e)
	}
	return p
}

func TestP11_2Print(t *testing.T) {
	for s, want := range map[string]string{
		"0": "0", "007": "7", "0x1f": "31", "0x4000000000000000": "4611686018427387904", "n": "n", "((n))": "n",
		"(1+2)*n": "(1 + 2) * n", "1+(2*n)": "1 + 2 * n", "1-(2-3)": "1 - (2 - 3)", "(1-2)-3": "1 - 2 - 3", "1+(2+3)": "1 + (2 + 3)",
		"(a==b)==c": "a == b == c", "a==(b==c)": "a == (b == c)", "n==(1<2)": "n == (1 < 2)", "(n!=1)<2": "n != 1 < 2",
		"1|(2&(3<<4))": "1 | 2 & 3 << 4", "((1|2)&3)<<4": "((1 | 2) & 3) << 4", "a*(b/c)": "a * (b / c)", "(a*b)%c": "a * b % c",
		"a<<(b>>c)": "a << (b >> c)", "(a+b)-(c+d)": "a + b - (c + d)", "(a*b)-(c*d)": "a * b - c * d",
		"(((a<b)|c)&d)": "((a < b) | c) & d", "\t1\n+\n2 ": "1 + 2",
	} {
		if p := reprinted(t, s); p != want {
			t.Errorf("%q: %q, not %q", s, p, want)
		}
	}
}

// TestP11_2AllPairs: each operator as the left and the right operand of each other one.
func TestP11_2AllPairs(t *testing.T) {
	for _, outer := range allSigns() {
		for _, inner := range allSigns() {
			l := []api.Exp{name("x"), name("y"), op(inner, 0, 1), name("z"), op(outer, 2, 3), op(outer, 3, 2), op(outer, 2, 2)}
			plain := "x " + inner + " y"
			left, right := plain, plain
			if rowOf(inner) < rowOf(outer) {
				left = "(" + plain + ")"
			}
			if rowOf(inner) <= rowOf(outer) {
				right = "(" + plain + ")"
			}
			wantsPrint(t, l, 4, left+" "+outer+" z", api.OK)
			wantsPrint(t, l, 5, "z "+outer+" "+right, api.OK)
			wantsPrint(t, l, 6, left+" "+outer+" "+right, api.OK)
			wantsPrint(t, l, 2, plain, api.OK)
			wantsPrint(t, l, 3, "z", api.OK)
		}
	}
}

func TestP11_2Errors(t *testing.T) {
	bad := []api.Exp{num(1), op("^", 0, 0)}
	good := []api.Exp{num(1), op("+", 0, 0)}
	for _, i := range []int{math.MinInt, -1, 2, 3, math.MaxInt} {
		wantsPrint(t, good, i, "", api.ErrArg)
		wantsPrint(t, bad, i, "", api.ErrType) // ahead of all other errors
		wantsPrint(t, nil, i, "", api.ErrArg)
	}
	wantsPrint(t, bad, 0, "", api.ErrType)
	wantsPrint(t, bad, 1, "", api.ErrType)
	wantsPrint(t, nil, 0, "", api.ErrArg)
	wantsPrint(t, make([]api.Exp, 401), 0, "", api.ErrType)
	wantsPrint(t, make([]api.Exp, 400), 399, "0", api.OK)
	wantsPrint(t, make([]api.Exp, 400), 400, "", api.ErrArg)
}

// doubled is a list of which each element but the first is an operator of twice the one before.
func doubled(n int) []api.Exp {
	l := []api.Exp{name(name16)}
	for i := range n - 1 {
		l = append(l, op("+", i, i))
	}
	return l
}

// long is a list whose last element has a text of 19994 bytes, and so many more as the last name has.
func long(last string) []api.Exp {
	// From the third element on, each text is twice that of the one before, one blank on either side of +, and parentheses on the right.
	l := append(doubled(10), op("+", 9, 8)) // 10235 bytes, 3 bytes, 5115 bytes in parentheses
	for range 244 {
		l = append(l, op("+", len(l)-1, 0)) // 19 bytes more
	}
	return append(l, name(last), op("-", len(l)-1, len(l)))
}

func TestP11_2Limit(t *testing.T) {
	for last, n := range map[string]int{"a": 19995, "abcde": 19999, "abcdef": 20000} {
		l := long(last)
		s, e := Print(l, len(l)-1)
		if len(s) != n || e != api.OK || !strings.HasSuffix(s, " - "+last) || !strings.HasPrefix(s, name16+" + "+name16+" + ("+name16+" + ") {
			t.Errorf("%d bytes, not %d, %d", len(s), n, e)
		}
		if back := readAs(s); !slices.Equal(back.list(), treeOf(l, len(l)-1).list()) {
			t.Errorf("%d bytes: read otherwise", n)
		}
	}
	for _, last := range []string{"abcdefg", name16} {
		l := long(last)
		wantsPrint(t, l, len(l)-1, "", api.ErrLimit)
	}
	// What could never be written is known soon, also if it is only on the right, and other parts are printed.
	l := doubled(400)
	wantsPrint(t, l, 399, "", api.ErrLimit)
	wantsPrint(t, l, 1, name16+" + "+name16, api.OK)
	for i := range l[:398] {
		l[i+1] = op("*", 0, i)
	}
	l[399] = num(5)
	wantsPrint(t, l, 399, "5", api.OK)
	if s, e := Print(l, 398); e != api.OK || len(s) != 16+398*19+397*2 || strings.Count(s, "(") != 397 {
		t.Errorf("%d bytes, %d", len(s), e)
	}
}

// TestP11_2RandomTrees: no pair of parentheses is missing, and none can be left out.
func TestP11_2RandomTrees(t *testing.T) {
	random := rand.New(rand.NewSource(2))
	for range 5000 {
		tr := randomTree(random, random.Intn(12))
		l := tr.list()
		wantsPrint(t, l, len(l)-1, modelPrint(tr), api.OK)
		i := random.Intn(len(l))
		wantsPrint(t, l, i, modelPrint(treeOf(l, i)), api.OK)
	}
}

// TestP11_2AnyLists: also those that Parse never returns, whose elements are parts of several others, or of none.
func TestP11_2AnyLists(t *testing.T) {
	random := rand.New(rand.NewSource(3))
	for range 5000 {
		l := randomList(random, 1+random.Intn(9))
		i := random.Intn(len(l))
		wantsPrint(t, l, i, modelPrint(treeOf(l, i)), api.OK)
	}
}

func randomList(r *rand.Rand, n int) []api.Exp {
	var l []api.Exp
	for i := range n {
		if i == 0 || r.Intn(3) == 0 {
			l = append(l, randomLeaf(r))
			continue
		}
		l = append(l, op(allSigns()[r.Intn(12)], r.Intn(i), r.Intn(i)))
	}
	return l
}

// TestP11_4ParseInvertsPrint: the printed text is read as the same tree, in the order in which Parse lists it.
func TestP11_4ParseInvertsPrint(t *testing.T) {
	random := rand.New(rand.NewSource(4))
	for range 5000 {
		l := randomList(random, 1+random.Intn(9))
		i := random.Intn(len(l))
		s, e := Print(l, i)
		if e != api.OK {
			t.Fatalf("%v, %d: %d", l, i, e)
		}
		wantsParse(t, s, treeOf(l, i).list(), api.OK)
		if again := reprinted(t, s); again != s {
			t.Errorf("%q: %q", s, again)
		}
	}
}

// TestP11_4Parentheses around a whole expression change nothing.
func TestP11_4Parentheses(t *testing.T) {
	random := rand.New(rand.NewSource(5))
	for range 3000 {
		tr := randomTree(random, random.Intn(9))
		for range random.Intn(4) {
			wantsParse(t, full(random, tr), tr.list(), api.OK)
			wantsParse(t, "("+modelPrint(tr)+")", tr.list(), api.OK)
		}
	}
}

func TestR5OfPrint(t *testing.T) {
	l := []api.Exp{name("a"), num(2), op("*", 0, 1), op("+", 2, 2)}
	before := slices.Clone(l)
	for range 2 {
		wantsPrint(t, l, 3, "a * 2 + a * 2", api.OK)
		wantsPrint(t, l, 4, "", api.ErrArg)
		Check(l)
		Eval(l, 3, []api.Bind{{Name: "a", N: 1}})
	}
	if !slices.Equal(l, before) {
		t.Errorf("%v", l)
	}
}
