package exp

import (
	"math"
	"math/rand"
	"slices"
	"strings"
	"testing"

	"mortise/api"
)

const name16 = "abcdefghijklmnop"

func num(n uint64) api.Exp { return api.Exp{N: n} }

func name(s string) api.Exp { return api.Exp{Name: s} }

func op(sign string, l int, r int) api.Exp { return api.Exp{Op: sign, L: l, R: r} }

func wantsCheck(t *testing.T, l []api.Exp, e api.Errno) {
	t.Helper()
	if f := Check(l); f != e {
		t.Errorf("%.200v: %d, not %d", l, f, e)
	}
}

func TestP11_1CheckLeaves(t *testing.T) {
	wantsCheck(t, nil, api.OK)
	wantsCheck(t, []api.Exp{}, api.OK)
	for _, n := range []uint64{0, 1, 1 << 61, most - 1, most} {
		wantsCheck(t, []api.Exp{num(n)}, api.OK)
	}
	for _, n := range []uint64{most + 1, 1 << 63, math.MaxUint64} {
		wantsCheck(t, []api.Exp{num(n)}, api.ErrType)
		wantsCheck(t, []api.Exp{num(1), num(n), num(2)}, api.ErrType)
	}
	for _, s := range []string{"a", "_", "Z", "a1", "__", "record", "u8", "x0x", name16, strings.Repeat("_", 16)} {
		wantsCheck(t, []api.Exp{name(s)}, api.OK)
		wantsCheck(t, []api.Exp{{Name: s, N: 1}}, api.ErrType)
		wantsCheck(t, []api.Exp{{Name: s, N: most + 1}}, api.ErrType)
	}
	for _, s := range []string{"1", "1a", " ", " a", "a ", "a b", "a\n", "a-b", "a.", "é", "aé", "a\x00", "+", "(a)", name16 + "q", strings.Repeat("a", 1000)} {
		wantsCheck(t, []api.Exp{name(s)}, api.ErrType)
	}
	for _, x := range []api.Exp{num(1), name("a")} {
		for _, i := range []int{1, -1, math.MaxInt, math.MinInt} {
			wantsCheck(t, []api.Exp{num(0), num(0), {Name: x.Name, N: x.N, L: i}}, api.ErrType)
			wantsCheck(t, []api.Exp{num(0), num(0), {Name: x.Name, N: x.N, R: i}}, api.ErrType)
		}
	}
}

// TestP11_1CheckNames: each byte alone, and behind another one.
func TestP11_1CheckNames(t *testing.T) {
	for c := range 256 {
		s := string([]byte{byte(c)})
		first, later := api.ErrType, api.ErrType
		if strings.Contains("ABCDEFGHIJKLMNOPQRSTUVWXYZabcdefghijklmnopqrstuvwxyz_", s) {
			first, later = api.OK, api.OK
		}
		if strings.Contains("0123456789", s) {
			later = api.OK
		}
		wantsCheck(t, []api.Exp{name(s)}, first)
		wantsCheck(t, []api.Exp{name("a" + s)}, later)
		wantsCheck(t, []api.Exp{name(name16[:15] + s)}, later)
		wantsCheck(t, []api.Exp{name("a" + s + "b")}, later)
	}
}

func TestP11_1CheckOperators(t *testing.T) {
	for _, s := range allSigns() {
		wantsCheck(t, []api.Exp{num(1), op(s, 0, 0)}, api.OK)
		wantsCheck(t, []api.Exp{num(1), name("a"), op(s, 1, 0), op(s, 2, 2)}, api.OK)
		for _, bad := range []api.Exp{op(s, 2, 0), op(s, 0, 2), op(s, 3, 0), op(s, 0, 3), op(s, -1, 0), op(s, 0, -1),
			op(s, math.MaxInt, 0), op(s, 0, math.MinInt), {Op: s, Name: "a"}, {Op: s, N: 1}, {Op: s, Name: "a", N: 1}} {
			wantsCheck(t, []api.Exp{num(1), num(1), bad, num(1)}, api.ErrType)
		}
		wantsCheck(t, []api.Exp{op(s, 0, 0)}, api.ErrType)
		wantsCheck(t, []api.Exp{num(1), op(" "+s, 0, 0)}, api.ErrType)
	}
	for _, s := range []string{"=", "!", ">", "<=", ">=", "&&", "||", "^", "**", "++", "<<<", "<>", "(", ")", "()", "a", "1", "\x00", "==="} {
		wantsCheck(t, []api.Exp{num(1), op(s, 0, 0)}, api.ErrType)
	}
}

func TestP11_1CheckCount(t *testing.T) {
	l := make([]api.Exp, 400)
	for i := range l {
		l[i] = op("+", max(i-1, 0), 0)
	}
	l[0] = num(1)
	wantsCheck(t, l, api.OK)
	wantsCheck(t, append(slices.Clone(l), num(1)), api.ErrType)
	wantsCheck(t, make([]api.Exp, 400), api.OK)
	wantsCheck(t, make([]api.Exp, 401), api.ErrType)
	wantsCheck(t, make([]api.Exp, 100000), api.ErrType)
	l[399].R = 399
	wantsCheck(t, l, api.ErrType)
}

func wantsParse(t *testing.T, s string, want []api.Exp, e api.Errno) {
	t.Helper()
	if l, f := Parse(s); !slices.Equal(l, want) || f != e {
		t.Errorf("%.200q: %.300v, %d, not %.300v, %d", s, l, f, want, e)
	}
}

// same holds Parse against the model.
func same(t *testing.T, s string) api.Errno {
	t.Helper()
	want, e := modelParse(s)
	wantsParse(t, s, want, e)
	return e
}

func TestP11_1Parse(t *testing.T) {
	for _, c := range []struct {
		s string
		l []api.Exp
	}{
		{"7", []api.Exp{num(7)}},
		{"n", []api.Exp{name("n")}},
		{"(n)", []api.Exp{name("n")}},
		{"1 + 2 * n", []api.Exp{num(1), num(2), name("n"), op("*", 1, 2), op("+", 0, 3)}},
		{"(1 + 2) * n", []api.Exp{num(1), num(2), op("+", 0, 1), name("n"), op("*", 2, 3)}},
		{"1 - 2 - 3", []api.Exp{num(1), num(2), op("-", 0, 1), num(3), op("-", 2, 3)}},
		{"1 - (2 - 3)", []api.Exp{num(1), num(2), num(3), op("-", 1, 2), op("-", 0, 3)}},
		{"a<b==c", []api.Exp{name("a"), name("b"), op("<", 0, 1), name("c"), op("==", 2, 3)}},
		{"a==b<c!=d", []api.Exp{name("a"), name("b"), op("==", 0, 1), name("c"), op("<", 2, 3), name("d"), op("!=", 4, 5)}},
		{"a|b&c<<d+e*f", []api.Exp{name("a"), name("b"), name("c"), name("d"), name("e"), name("f"), op("*", 4, 5), op("+", 3, 6), op("<<", 2, 7), op("&", 1, 8), op("|", 0, 9)}},
		{"a*b+c>>d&e|f!=g", []api.Exp{name("a"), name("b"), op("*", 0, 1), name("c"), op("+", 2, 3), name("d"), op(">>", 4, 5), name("e"), op("&", 6, 7), name("f"), op("|", 8, 9), name("g"), op("!=", 10, 11)}},
		{"n + n", []api.Exp{name("n"), name("n"), op("+", 0, 1)}}, // each part is one of its own
	} {
		wantsParse(t, c.s, c.l, api.OK)
		same(t, c.s)
	}
}

// TestP11_1Levels: of each three operators, those of the highest level come first, and of equal ones the left one.
func TestP11_1Levels(t *testing.T) {
	for _, a := range allSigns() {
		for _, b := range allSigns() {
			two := []api.Exp{name("x"), name("y"), op(a, 0, 1), name("z"), op(b, 2, 3)}
			if rowOf(b) > rowOf(a) {
				two = []api.Exp{name("x"), name("y"), name("z"), op(b, 1, 2), op(a, 0, 3)}
			}
			wantsParse(t, "x "+a+" y "+b+" z", two, api.OK)
			wantsParse(t, "x"+a+"y"+b+"z", two, api.OK)
			for _, c := range allSigns() {
				same(t, "w"+a+"x"+b+"y"+c+"z")
				same(t, "w"+a+"(x"+b+"y)"+c+"z")
			}
		}
	}
}

func TestP11_1Numbers(t *testing.T) {
	for s, n := range map[string]uint64{
		"0": 0, "00": 0, "007": 7, "10": 10, "4611686018427387903": most - 1, "4611686018427387904": most,
		"0x0": 0, "0xf": 15, "0x10": 16, "0x00ff": 255, "0xabcdef": 0xabcdef, "0x9": 9, "0x4000000000000000": most,
		"0x3fffffffffffffff": most - 1, "0x" + strings.Repeat("0", 500) + "1": 1,
		strings.Repeat("0", 500) + "4611686018427387904": most, strings.Repeat("0", 19999) + "5": 5,
	} {
		wantsParse(t, s, []api.Exp{num(n)}, api.OK)
		same(t, s)
	}
	for _, s := range []string{"4611686018427387905", "9223372036854775808", "18446744073709551615", "18446744073709551616",
		"18446744073709551617", "100000000000000000000000", "0x4000000000000001", "0x8000000000000000", "0xffffffffffffffff",
		"0x10000000000000000", "0x10000000000000001", strings.Repeat("9", 20000),
		"0x", "0X1", "0xF", "0xaB", "0xg", "0x1g", "0x 1", "00x1", "1x1", "1a", "1_", "1_000", "0_1", "0b1", "0o7", "1e3", "1.5", ".5",
		"-1", "+1", "1u", "0x1_", "0x_1", "12 3", "0xx1", "0x0x1", "0xe+", "1é", "１"} {
		wantsParse(t, s, nil, api.ErrSyntax)
		same(t, s)
	}
	same(t, "0xe+1")
	same(t, "1-1")
}

func TestP11_1Names(t *testing.T) {
	for _, s := range []string{"a", "_", "Z_9", "x0", "is", "record", "u8", "else", name16, "_123456789012345"} {
		wantsParse(t, s, []api.Exp{name(s)}, api.OK)
		wantsParse(t, s+"+"+s, []api.Exp{name(s), name(s), op("+", 0, 1)}, api.OK)
	}
	for _, s := range []string{name16 + "q", name16 + "1", name16 + "_", strings.Repeat("a", 19000), "a b", "a 1", "1 a", "a$", "a.b", "a'", "é", "aé", "\"a\""} {
		wantsParse(t, s, nil, api.ErrSyntax)
		wantsParse(t, "1+"+s, nil, api.ErrSyntax)
	}
}

// TestP11_1Bytes: of all bytes only three separate, and there may be any number of them wherever tokens meet.
func TestP11_1Bytes(t *testing.T) {
	sum := []api.Exp{num(1), name("n"), op("<<", 0, 1)}
	for c := range 256 {
		s := string([]byte{byte(c)})
		for _, form := range []string{"1#<<n", "1<<#n", "#1<<n", "1<<n#", "(1)#<<n", "(#1)<<n", "(1#)<<(n)#"} {
			text := strings.ReplaceAll(form, "#", s)
			if same(t, text); strings.Contains(" \t\n", s) {
				wantsParse(t, text, sum, api.OK)
				wantsParse(t, strings.ReplaceAll(form, "#", " \n\t \t"+s), sum, api.OK)
			}
		}
		same(t, s)
		same(t, "1"+s+"1")
		same(t, "a"+s+"a")
		same(t, "1<"+s+"<1")
		same(t, "a "+s+" b")
	}
}

// TestP11_1Longest: each token is as long as possible, whatever the shorter one would lead to.
func TestP11_1Longest(t *testing.T) {
	for _, s := range []string{"1<<<2", "1<<<<2", "1< <2", "1> >2", "1= =2", "1! =2", "1===2", "1!==2", "1==!2", "1>2", "1=2", "1!2", "1<=2", "1>=2", "1>>>2", "1&&2", "1||2", "1**2", "1--2", "1+-2", "1<-2", "!1", "-1", "~1", "1^2", "1//2"} {
		wantsParse(t, s, nil, api.ErrSyntax)
		same(t, s)
	}
	wantsParse(t, "1<<2", []api.Exp{num(1), num(2), op("<<", 0, 1)}, api.OK)
	wantsParse(t, "1<(2)", []api.Exp{num(1), num(2), op("<", 0, 1)}, api.OK)
	wantsParse(t, "12a", nil, api.ErrSyntax)
	wantsParse(t, "a12", []api.Exp{name("a12")}, api.OK)
}

func TestP11_1WrongTexts(t *testing.T) {
	for _, s := range []string{"", " ", "\n", "(", ")", "()", "( )", ")(", "(1", "1)", "((1)", "(1))", "1 2", "(1)(2)", "1(2)", "(1)2", "a(1)", "+", "1+", "+1", "*1", "1+*2", "1 + + 2",
		"(+)", "(1+)", "(+1)", "1+()", "1;", "1,2", "[1]", "{1}", "1 # 2", "1\x00", "\x001", "1\r", "1\v", "1\u00a0"} {
		wantsParse(t, s, nil, api.ErrSyntax)
		same(t, s)
	}
}

func TestP11_1Nesting(t *testing.T) {
	in := func(n int, s string) string { return strings.Repeat("(", n) + s + strings.Repeat(")", n) }
	wantsParse(t, in(20, "7"), []api.Exp{num(7)}, api.OK)
	for _, s := range []string{in(21, "7"), in(22, "7"), in(9999, "7"), strings.Repeat("(", 20000), in(20, "1+(2)"), "1+" + in(21, "7"), in(21, "7") + "+1", in(20, "7") + "+" + in(21, "7")} {
		wantsParse(t, s, nil, api.ErrSyntax)
	}
	// Those that are closed do not count.
	wantsParse(t, in(20, "7")+"+"+in(20, "8"), []api.Exp{num(7), num(8), op("+", 0, 1)}, api.OK)
	wantsParse(t, in(19, in(1, "7")+"+"+in(1, "8")), []api.Exp{num(7), num(8), op("+", 0, 1)}, api.OK)
	if l, e := Parse(strings.Repeat("(1)+", 199) + "1"); len(l) != 399 || e != api.OK {
		t.Errorf("%d elements, %d", len(l), e)
	}
}

func TestP11_1Limits(t *testing.T) {
	for n, e := range map[int]api.Errno{1: api.OK, 200: api.OK, 201: api.ErrSyntax, 202: api.ErrSyntax, 1000: api.ErrSyntax} {
		left := strings.Repeat("1+", n-1) + "1"
		if same(t, left) != e {
			t.Errorf("%d numbers: not %d", n, e)
		}
	}
	for s, e := range map[string]api.Errno{"1": api.OK, "": api.ErrSyntax, ")": api.ErrSyntax} {
		wantsE := func(text string, want api.Errno) {
			if _, f := Parse(text); f != want {
				t.Errorf("%d bytes with %q: %d, not %d", len(text), s, f, want)
			}
		}
		wantsE(strings.Repeat(" ", 20000-len(s))+s, e)
		wantsE(s+strings.Repeat(" ", 20000-len(s)), e)
		wantsE(strings.Repeat(" ", 20001-len(s))+s, api.ErrLimit)
		wantsE(s+strings.Repeat(" ", 20001-len(s)), api.ErrLimit)
		wantsE(s+strings.Repeat(" ", 1<<20), api.ErrLimit)
	}
}

// TestP11_1RandomTexts: those of expressions, and of any tokens.
func TestP11_1RandomTexts(t *testing.T) {
	random := rand.New(rand.NewSource(1))
	seen := map[api.Errno]int{}
	pieces := append(allSigns(), "1", "a", "0x1f", "(", ")", " ", "7", "n", "(", ")", "\n", name16, "=", "!", ">", "G", "4611686018427387904")
	for range 20000 {
		s := full(random, randomTree(random, random.Intn(8)))
		if random.Intn(2) == 0 {
			at := random.Intn(len(s) + 1)
			s = s[:at] + pieces[random.Intn(len(pieces))] + s[min(len(s), at+random.Intn(3)):]
		}
		seen[same(t, s)]++
		s = ""
		for range random.Intn(8) {
			s += pieces[random.Intn(len(pieces))]
		}
		seen[same(t, s)]++
	}
	if seen[api.OK] < 1000 || seen[api.ErrSyntax] < 1000 {
		t.Errorf("%v", seen)
	}
}

// TestR5OfParse: asked again, there is the same list anew.
func TestR5OfParse(t *testing.T) {
	first, _ := Parse("a + 2 * b")
	for i := range first {
		first[i] = api.Exp{Op: "?"}
	}
	_ = append(first, num(1))
	wantsParse(t, "a + 2 * b", []api.Exp{name("a"), num(2), name("b"), op("*", 1, 2), op("+", 0, 3)}, api.OK)
}
