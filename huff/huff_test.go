package huff

import (
	"math"
	"math/big"
	"math/rand"
	"slices"
	"strings"
	"testing"

	"mortise/api"
	"mortise/bits"
)

// modelCheck is Check as the chapter tells it, by fractions.
func modelCheck(lengths []int) api.Errno {
	if len(lengths) > 320 {
		return api.ErrArg
	}
	sum, n, ones := new(big.Rat), 0, 0
	for _, x := range lengths {
		if x < 0 || x > 15 {
			return api.ErrArg
		}
		if x > 0 {
			n++
			sum.Add(sum, big.NewRat(1, int64(1)<<x))
		}
		if x == 1 {
			ones++
		}
	}
	if n == 0 || n == 1 && ones == 1 || sum.Cmp(big.NewRat(1, 1)) == 0 {
		return api.OK
	}
	return api.ErrForm
}

// modelCodes are the codes as the chapter tells them, as texts of digits 0 and 1, empty for a symbol without one: in their order, each is the one before plus 1, followed by as many bits 0 as it is longer.
func modelCodes(lengths []int) []string {
	codes := make([]string, len(lengths))
	var order []int
	for symbol, n := range lengths {
		if n > 0 {
			order = append(order, symbol)
		}
	}
	slices.SortFunc(order, func(a, b int) int {
		if lengths[a] != lengths[b] {
			return lengths[a] - lengths[b]
		}
		return a - b
	})
	for i, symbol := range order {
		if i == 0 {
			codes[symbol] = strings.Repeat("0", lengths[symbol])
			continue
		}
		last := codes[order[i-1]]
		next := []byte(last)
		for k := len(next) - 1; k >= 0; k-- {
			next[k] ^= 1 // a 1 becomes a 0 and carries
			if next[k] == '1' {
				break
			}
		}
		codes[symbol] = string(next) + strings.Repeat("0", lengths[symbol]-len(last))
	}
	return codes
}

func number(digits string) int {
	n := 0
	for _, d := range digits {
		n = 2*n + int(d-'0')
	}
	return n
}

// lists are all lists of at most so many numbers, from -1 to most.
func lists(longest int, most int) [][]int {
	l := [][]int{nil}
	for first := 0; len(l[first]) < longest; first++ {
		for n := -1; n <= most; n++ {
			l = append(l, append(slices.Clone(l[first]), n))
		}
	}
	return l
}

// sameCode holds Check, Codes and New against the model.
func sameCode(t *testing.T, lengths []int) {
	t.Helper()
	given := slices.Clone(lengths)
	want := modelCheck(lengths)
	if e := Check(lengths); e != want {
		t.Fatalf("%v: Check: %d, not %d", given, e, want)
	}
	codes, e := Codes(lengths)
	if e != want {
		t.Fatalf("%v: Codes: %d, not %d", given, e, want)
	}
	if e != api.OK && len(codes) != 0 || e == api.OK && len(codes) != len(lengths) {
		t.Fatalf("%v: Codes: %v, %d", given, codes, e)
	}
	if e == api.OK {
		for symbol, digits := range modelCodes(lengths) {
			if codes[symbol] != number(digits) {
				t.Fatalf("%v: symbol %d: the code %b, not %s", given, symbol, codes[symbol], digits)
			}
		}
	}
	if table, e := New(lengths); e != want || (table == nil) != (e != api.OK) {
		t.Fatalf("%v: New: %v, %d, not %d", given, table, e, want)
	}
	if !slices.Equal(lengths, given) {
		t.Fatalf("%v was changed to %v", given, lengths)
	}
}

// repeat is a list of n times x.
func repeat(n int, x int) []int { return slices.Repeat([]int{x}, n) }

// steep are the lengths 1 to n, and n again: the only code of n + 1 symbols that is that deep.
func steep(n int) []int {
	var l []int
	for i := range n {
		l = append(l, i+1)
	}
	return append(l, n)
}

// codes are lists of lengths that form a code: the edges, and some that fill the limits.
func codes() [][]int {
	fixed := slices.Concat(repeat(144, 8), repeat(112, 9), repeat(24, 7), repeat(8, 8))
	deep := slices.Concat(steep(14)[:14], repeat(2, 15))
	full := slices.Concat(repeat(192, 8), repeat(128, 9))
	slices.Reverse(deep)
	return [][]int{
		nil, {0}, {0, 0, 0}, repeat(320, 0),
		{1}, {0, 1, 0}, append(repeat(319, 0), 1),
		{1, 1}, {1, 0, 1}, append(append([]int{1}, repeat(318, 0)...), 1),
		{2, 1, 3, 3}, {3, 3, 3, 3, 3, 2, 4, 4}, {2, 2, 2, 2}, {3, 3, 2, 1},
		steep(2), steep(15), deep, slices.Concat(repeat(300, 0), steep(15)),
		repeat(256, 8), repeat(32, 5), fixed, full, slices.Concat(full[160:], full[:160]),
	}
}

func TestP6_1AllSmallLists(t *testing.T) {
	for _, l := range lists(6, 4) {
		sameCode(t, l)
	}
}

func TestP6_1Codes(t *testing.T) {
	for _, l := range codes() {
		if e := Check(l); e != api.OK {
			t.Errorf("%v: %d", l, e)
		}
		sameCode(t, l)
	}
}

// TestP6_1NearCodes changes one length of a code at a time.
func TestP6_1NearCodes(t *testing.T) {
	for _, l := range codes() {
		for i := 0; i < len(l); i += 1 + len(l)/20 {
			for _, n := range []int{math.MinInt, -1, 0, 1, 2, 8, 9, 14, 15, 16, 17, 63, 64, math.MaxInt} {
				k := slices.Clone(l)
				k[i] = n
				sameCode(t, k)
			}
		}
		sameCode(t, append(slices.Clone(l), 0))
		sameCode(t, append(slices.Clone(l), 1))
		sameCode(t, append(slices.Clone(l), 15))
	}
}

func TestP6_1Limits(t *testing.T) {
	for i, c := range []struct {
		l []int
		e api.Errno
	}{
		{repeat(321, 0), api.ErrArg},
		{append(repeat(320, 0), 1), api.ErrArg},
		{repeat(321, 15), api.ErrArg},
		{repeat(320, 15), api.ErrForm},
		{repeat(320, 1), api.ErrForm},
		{[]int{15}, api.ErrForm},
		{[]int{16}, api.ErrArg},
		{[]int{1, 1, 16}, api.ErrArg},
		{[]int{1, 1, 1, -1}, api.ErrArg}, // ahead of ErrForm
		{[]int{2}, api.ErrForm},
		{[]int{0, 2, 0}, api.ErrForm},
		{[]int{2, 2}, api.ErrForm},
		{[]int{1, 2}, api.ErrForm},
		{[]int{1, 2, 3}, api.ErrForm},
		{steep(15)[:15], api.ErrForm},
		{append(steep(15), 15), api.ErrForm},
	} {
		if e := Check(c.l); e != c.e {
			t.Errorf("case %d: %d, not %d", i, e, c.e)
		}
		sameCode(t, c.l)
	}
}

// pack makes a text of digits into bytes, the first digit the lowest bit; the rest of the last byte is filled.
func pack(digits string) string {
	var w bits.Writer
	for _, d := range digits {
		w.Put(uint32(d-'0'), 1)
	}
	return w.String()
}

// modelNext is Next as the chapter tells it: how the digits go on decides.
func modelNext(codes []string, digits string) (int, api.Errno) {
	for n := range len(digits) + 1 {
		begins := false
		for symbol, c := range codes {
			if c != "" && c == digits[:n] {
				return symbol, api.OK
			}
			begins = begins || c != "" && strings.HasPrefix(c, digits[:n])
		}
		if !begins {
			return 0, api.ErrForm
		}
	}
	return 0, api.ErrCut
}

// sameNext reads symbols up to an error, and holds each against the model. The first bits are read past beforehand, so that codes begin anywhere in a byte.
func sameNext(t *testing.T, table *Table, codes []string, digits string, past int) {
	t.Helper()
	r := bits.New(pack(digits))
	digits += strings.Repeat("0", -len(digits)&7)
	r.Bits(past)
	for at := past; ; {
		want, wantE := modelNext(codes, digits[at:])
		for range 2 { // after an error, again
			n, e := table.Next(r)
			if n != want || e != wantE {
				t.Fatalf("%q: bit %d of %s: %d, %d, not %d, %d", codes, at, digits, n, e, want, wantE)
			}
			if e == api.OK {
				at += len(codes[n])
				break
			}
		}
		if r.At() != at {
			t.Fatalf("%q: bit %d of %s: At %d", codes, at, digits, r.At())
		}
		if wantE != api.OK {
			return
		}
	}
}

func TestP6_2AllSmallCodes(t *testing.T) {
	for _, l := range lists(5, 4) {
		table, e := New(l)
		if e != api.OK {
			continue
		}
		codes := modelCodes(l)
		sameNext(t, table, codes, "", 0)
		for n := range 256 {
			digits := []byte("00000000")
			for i := range 8 {
				digits[i] += byte(n >> i & 1)
			}
			sameNext(t, table, codes, string(digits), n%9)
		}
	}
}

func TestP6_2LongTexts(t *testing.T) {
	random := rand.New(rand.NewSource(2))
	for _, l := range codes() {
		table, e := New(l)
		if e != api.OK {
			t.Fatalf("%v: %d", l, e)
		}
		codes := modelCodes(l)
		for past := range 9 {
			digits := make([]byte, 200)
			for i := range digits {
				digits[i] = '0' + byte(random.Intn(2))
				if past%3 == 1 && i%40 != 0 {
					digits[i] = '1' // the longest codes
				}
			}
			sameNext(t, table, codes, string(digits), past)
		}
	}
}

func TestP6_2Errors(t *testing.T) {
	none, _ := New(nil)
	zero, _ := New([]int{0, 0})
	one, _ := New([]int{0, 0, 1})
	four, _ := New([]int{2, 1, 3, 3})
	deep, _ := New(steep(15))
	for i, c := range []struct {
		table *Table
		text  string
		past  int
		n     int
		e     api.Errno
	}{
		{none, "", 0, 0, api.ErrForm}, // immediately, not ErrCut
		{none, "\x00", 3, 0, api.ErrForm},
		{zero, "", 0, 0, api.ErrForm},
		{zero, "\xff", 8, 0, api.ErrForm},
		{one, "", 0, 0, api.ErrCut},
		{one, "\x80", 8, 0, api.ErrCut},
		{one, "\x80", 7, 0, api.ErrForm},
		{one, "\x7f", 7, 2, api.OK},
		{four, "", 0, 0, api.ErrCut},
		{four, "\xff", 8, 0, api.ErrCut},
		{four, "\xff", 7, 0, api.ErrCut},
		{four, "\xff", 6, 0, api.ErrCut},
		{four, "\xff", 5, 3, api.OK},
		{four, "\x7f", 7, 1, api.OK},
		{four, "\x7f", 6, 0, api.OK},
		{deep, "\xff\x7f", 0, 15, api.OK},
		{deep, "\xff\x3f", 0, 14, api.OK},
		{deep, "\xff\xff", 1, 15, api.OK},
		{deep, "\xff\xff", 2, 0, api.ErrCut},
	} {
		r := bits.New(c.text)
		r.Bits(c.past)
		n, e := c.table.Next(r)
		if n != c.n || e != c.e || e != api.OK && r.At() != c.past {
			t.Errorf("case %d: %d, %d, at %d", i, n, e, r.At())
		}
	}
}

func TestP6_2Nil(t *testing.T) {
	none, _ := New(nil)
	four, _ := New([]int{2, 1, 3, 3})
	r := bits.New("\x00")
	for i, c := range []struct {
		table *Table
		r     *bits.Reader
	}{{nil, nil}, {nil, r}, {none, nil}, {four, nil}} {
		if n, e := c.table.Next(c.r); n != 0 || e != api.ErrArg || r.At() != 0 {
			t.Errorf("case %d: %d, %d, at %d", i, n, e, r.At())
		}
	}
}

// put writes symbols by the codes, the highest bit of each first.
func put(w *bits.Writer, lengths []int, codes []int, symbols []int) {
	for _, symbol := range symbols {
		for i := lengths[symbol] - 1; i >= 0; i-- {
			w.Put(uint32(codes[symbol]>>i&1), 1)
		}
	}
}

// TestP6_4ReadBack writes each symbol of a code, and some in any order, and reads them again.
func TestP6_4ReadBack(t *testing.T) {
	random := rand.New(rand.NewSource(4))
	for _, l := range codes() {
		var with []int
		for symbol, n := range l {
			if n > 0 {
				with = append(with, symbol)
			}
		}
		symbols := slices.Clone(with)
		for range 3 * len(with) {
			symbols = append(symbols, with[random.Intn(len(with))])
		}
		codes, _ := Codes(l)
		table, _ := New(l)
		var w bits.Writer
		put(&w, l, codes, symbols)
		r := bits.New(w.String())
		for i, want := range symbols {
			if n, e := table.Next(r); n != want || e != api.OK {
				t.Fatalf("%v: symbol %d: %d, %d, not %d", l, i, n, e, want)
			}
		}
		if r.At() != w.Len() {
			t.Errorf("%v: %d bits read, %d written", l, r.At(), w.Len())
		}
	}
}

func TestP6_4NoPrefix(t *testing.T) {
	for _, l := range append(codes(), lists(5, 4)...) {
		codes, e := Codes(l)
		if e != api.OK {
			continue
		}
		for a, n := range l {
			for b, m := range l {
				if a != b && n > 0 && n <= m && codes[b]>>(m-n) == codes[a] {
					t.Fatalf("%v: the code of %d begins with that of %d", l, b, a)
				}
			}
		}
	}
}

// TestR5NothingShared: neither a list that was given nor one that was handed out changes a table or another answer.
func TestR5NothingShared(t *testing.T) {
	given := []int{2, 1, 3, 3}
	first, _ := Codes(given)
	table, _ := New(given)
	for i := range first[:cap(first)] {
		first[:cap(first)][i] = -9
	}
	if l, e := Codes(given); !slices.Equal(l, []int{2, 0, 6, 7}) || e != api.OK {
		t.Errorf("%v, %d", l, e)
	}
	clear(given)
	r := bits.New("\x1d") // 10, 111, 0
	for _, want := range []int{0, 3, 1} {
		if n, e := table.Next(r); n != want || e != api.OK {
			t.Errorf("%d, %d, not %d", n, e, want)
		}
	}
}

// TestR6TwoReaders: a table keeps nothing of what it reads.
func TestR6TwoReaders(t *testing.T) {
	table, _ := New([]int{2, 1, 3, 3})
	a, b := bits.New("\x1d"), bits.New("\x1d")
	for _, want := range []int{0, 3, 1} {
		table.Next(bits.New("\x03"))
		for _, r := range []*bits.Reader{a, b} {
			if n, e := table.Next(r); n != want || e != api.OK {
				t.Errorf("%d, %d, not %d", n, e, want)
			}
		}
	}
}

func TestExamplesOfTheChapter(t *testing.T) {
	if l, e := Codes([]int{2, 1, 3, 3}); !slices.Equal(l, []int{2, 0, 6, 7}) || e != api.OK {
		t.Errorf("%v, %d", l, e)
	}
	if l, e := Codes([]int{1, 1, 1}); len(l) != 0 || e != api.ErrForm {
		t.Errorf("%v, %d", l, e)
	}
	if l, e := Codes([]int{0, 1, 0}); !slices.Equal(l, []int{0, 0, 0}) || e != api.OK {
		t.Errorf("%v, %d", l, e)
	}
	l, e := Lengths([]int{1, 1, 2, 4}, 15)
	if e != api.OK || cost([]int{1, 1, 2, 4}, l) != 14 || Check(l) != api.OK {
		t.Errorf("%v, %d", l, e)
	}
}
