package match

import (
	"math"
	"math/rand"
	"slices"
	"strings"
	"testing"

	"mortise/api"
	"mortise/bits"
	"mortise/huff"
	"mortise/inflate"
)

const most = 1 << 30

// modelValid is whether a token is valid, as the chapter tells it.
func modelValid(t api.Token) bool {
	if t.Dist == 0 {
		return t.Len == 0
	}
	return 1 <= t.Dist && t.Dist <= 32768 && 3 <= t.Len && t.Len <= 258 && t.Lit == 0
}

// modelExpand is Expand as the chapter tells it.
func modelExpand(l []api.Token, limit int) (string, api.Errno) {
	if limit < 0 || limit > 1073741824 {
		return "", api.ErrArg
	}
	out := ""
	for _, t := range l {
		if !modelValid(t) {
			return "", api.ErrArg
		}
		if t.Dist > len(out) {
			return "", api.ErrForm
		}
		if t.Dist == 0 {
			out += string([]byte{t.Lit})
		}
		for range t.Len {
			out += out[len(out)-t.Dist:][:1]
		}
		if len(out) > limit {
			return "", api.ErrLimit
		}
	}
	return out, api.OK
}

func sameExpand(t *testing.T, l []api.Token, limit int) {
	t.Helper()
	given := slices.Clone(l)
	want, wantE := modelExpand(l, limit)
	if s, e := Expand(l, limit); s != want || e != wantE {
		t.Fatalf("%v, limit %d: %q, %d, not %q, %d", l, limit, s, e, want, wantE)
	}
	if !slices.Equal(l, given) {
		t.Fatalf("%v was changed to %v", given, l)
	}
}

// edges are tokens at the bounds of validity, and behind them.
func edges() []api.Token {
	var l []api.Token
	for _, lit := range []byte{0, 1, 143, 144, 255} {
		for _, n := range []int{math.MinInt, -3, -1, 0, 1, 2, 3, 4, 258, 259, math.MaxInt} {
			for _, d := range []int{math.MinInt, -1, 0, 1, 2, 3, 32767, 32768, 32769, math.MaxInt} {
				l = append(l, api.Token{Lit: lit, Len: n, Dist: d})
			}
		}
	}
	return l
}

func TestP8_1EveryEdge(t *testing.T) {
	before := []api.Token{{Lit: 'a'}, {Lit: 'b'}}
	for _, x := range edges() {
		for n := range len(before) + 1 {
			for _, limit := range []int{math.MinInt, -1, 0, 1, 2, 3, 4, 5, 6, 259, 260, most, most + 1, math.MaxInt} {
				sameExpand(t, append(slices.Clone(before[:n]), x), limit)
			}
		}
	}
}

// TestP8_1AllShortLists: all lists of up to five of these tokens, so that several errors stand in one list.
func TestP8_1AllShortLists(t *testing.T) {
	pool := []api.Token{{Lit: 'a'}, {Lit: 'b'}, {Len: 3, Dist: 1}, {Len: 4, Dist: 2}, {Len: 3, Dist: 4}, {Len: 2, Dist: 1}}
	lists := [][]api.Token{nil}
	for first := 0; first < len(lists); first++ {
		for limit := range 12 {
			sameExpand(t, lists[first], limit)
		}
		if len(lists[first]) < 5 {
			for _, x := range pool {
				lists = append(lists, append(slices.Clone(lists[first]), x))
			}
		}
	}
}

// TestP8_1Window: a match that leads as far back as may be, and one byte less far back than it leads.
func TestP8_1Window(t *testing.T) {
	noise := make([]byte, api.MaxWindow)
	rand.New(rand.NewSource(1)).Read(noise)
	var l []api.Token
	for _, b := range noise {
		l = append(l, api.Token{Lit: b})
	}
	far := api.Token{Len: api.MaxMatch, Dist: api.MaxWindow}
	if s, e := Expand(append(slices.Clone(l), far), most); s != string(noise)+string(noise[:258]) || e != api.OK {
		t.Errorf("%d bytes, %d", len(s), e)
	}
	if s, e := Expand(append(slices.Clone(l), far), api.MaxWindow+257); s != "" || e != api.ErrLimit {
		t.Errorf("%d bytes, %d", len(s), e)
	}
	if s, e := Expand(append(slices.Clone(l[1:]), far), most); s != "" || e != api.ErrForm {
		t.Errorf("%d bytes, %d", len(s), e)
	}
}

// found holds what Find returns for a string against the promise, and tells how many tokens there are.
func found(t *testing.T, s string) int {
	t.Helper()
	l := Find(s)
	for i, x := range l {
		if !modelValid(x) {
			t.Fatalf("%.80q: token %d: %v", s, i, x)
		}
	}
	if out, e := Expand(l, len(s)); out != s || e != api.OK {
		t.Fatalf("%.80q: %.80q, %d", s, out, e)
	}
	if len(l) > len(s) {
		t.Fatalf("%.80q: %d tokens", s, len(l))
	}
	if again := Find(s); !slices.Equal(l, again) {
		t.Fatalf("%.80q: asked again: %v, not %v", s, again, l)
	}
	return len(l)
}

// strings over letters, all of at most so many bytes.
func all(letters string, longest int) []string {
	l := []string{""}
	for first := 0; len(l[first]) < longest; first++ {
		for _, c := range letters {
			l = append(l, l[first]+string(c))
		}
	}
	return l
}

func TestP8_2AllShortStrings(t *testing.T) {
	for _, s := range slices.Concat(all("ab", 12), all("abc", 7), all("\x00\xff", 8)) {
		found(t, s)
	}
}

func TestP8_2LongStrings(t *testing.T) {
	random := rand.New(rand.NewSource(2))
	for _, n := range []int{100, 1000, 40000, 120000} {
		for _, kinds := range []int{2, 3, 20, 256} {
			s := make([]byte, n)
			for i := range s {
				s[i] = byte(random.Intn(kinds))
			}
			found(t, string(s))
		}
	}
}

// TestP8_2Far: the same bytes again, as far back as a match may lead, and farther.
func TestP8_2Far(t *testing.T) {
	noise := make([]byte, api.MaxWindow+300)
	rand.New(rand.NewSource(3)).Read(noise)
	for gap := api.MaxWindow - 5; gap < api.MaxWindow+5; gap++ {
		for _, from := range []int{0, 1, 200} { // the first of the bytes that are there again
			s := string(noise[:from+gap]) + string(noise[from:from+99])
			n := found(t, s)
			if again := len(s) - n; (again > 97) != (gap <= api.MaxWindow) {
				t.Errorf("%d bytes back, from %d: %d tokens for %d bytes", gap, from, n, len(s))
			}
		}
	}
}

// TestFindChooses: the longest match of several, the nearest one of equally long ones.
func TestFindChooses(t *testing.T) {
	for s, want := range map[string]api.Token{
		"abcdefgh-abc+abcdefgh": {Len: 8, Dist: 13},
		"abc+abcdefgh-abcdefgh": {Len: 8, Dist: 9},
		"abc+abc-abc":           {Len: 3, Dist: 4},
	} {
		if l := Find(s); l[len(l)-1] != want {
			t.Errorf("%s: %v", s, l)
		}
	}
}

func TestP8_2OneByte(t *testing.T) {
	for n := range 3000 {
		s := strings.Repeat(string([]byte{byte(n)}), n)
		if k := found(t, s); k > 3+n/200 {
			t.Errorf("%d bytes %d: %d tokens", n, byte(n), k)
		}
	}
	for _, n := range []int{32767, 32768, 32769, 65536, 100000, 1000000} {
		for _, b := range []string{"\x00", "z", "\xff"} {
			if k := found(t, strings.Repeat(b, n)); k > 3+n/200 {
				t.Errorf("%d bytes %q: %d tokens", n, b, k)
			}
		}
	}
}

// TestFinderForgets: what is kept while tokens are found does not grow with the string.
func TestFinderForgets(t *testing.T) {
	noise := make([]byte, 4*api.MaxWindow)
	rand.New(rand.NewSource(4)).Read(noise)
	f := &finder{text: string(noise), seen: map[key]places{}}
	for at := range noise {
		f.keep(at)
		if len(f.seen) > api.MaxWindow {
			t.Fatalf("byte %d: %d", at, len(f.seen))
		}
	}
}

// fixedCodes are the codes of chapter 7, of the literals and of the distances.
func fixedCodes() ([]int, []int) {
	literals := slices.Concat(slices.Repeat([]int{8}, 144), slices.Repeat([]int{9}, 112), slices.Repeat([]int{7}, 24), slices.Repeat([]int{8}, 8))
	return literals, slices.Repeat([]int{5}, 32)
}

// symbolOf is the symbol of a number, and its extra bits with what they add, as chapter 7 lists the least numbers of the symbols: the first group has no extra bits, and each other one has one more than the group ahead.
func symbolOf(n int, groups [][]int) (symbol int, extra int, more int) {
	next := 0
	for bits, group := range groups {
		for _, least := range group {
			if least <= n {
				symbol, extra, more = next, bits, n-least
			}
			next++
		}
	}
	return symbol, extra, more
}

func literalOf(length int) (int, int, int) {
	if length == 258 {
		return 285, 0, 0
	}
	symbol, extra, more := symbolOf(length, [][]int{{3, 4, 5, 6, 7, 8, 9, 10}, {11, 13, 15, 17}, {19, 23, 27, 31}, {35, 43, 51, 59}, {67, 83, 99, 115}, {131, 163, 195, 227}})
	return 257 + symbol, extra, more
}

func distanceOf(n int) (int, int, int) {
	return symbolOf(n, [][]int{{1, 2, 3, 4}, {5, 7}, {9, 13}, {17, 25}, {33, 49}, {65, 97}, {129, 193}, {257, 385}, {513, 769}, {1025, 1537}, {2049, 3073}, {4097, 6145}, {8193, 12289}, {16385, 24577}})
}

// put writes a symbol, the highest bit of its code first.
func put(w *bits.Writer, lengths []int, symbol int) {
	codes, _ := huff.Codes(lengths)
	for i := lengths[symbol] - 1; i >= 0; i-- {
		w.Put(uint32(codes[symbol]>>i&1), 1)
	}
}

// block writes tokens as a block of kind 1, the last one.
func block(l []api.Token) *bits.Writer {
	literals, distances := fixedCodes()
	w := &bits.Writer{}
	w.Put(3, 3)
	for _, t := range l {
		if t.Dist == 0 {
			put(w, literals, int(t.Lit))
			continue
		}
		symbol, extra, more := literalOf(t.Len)
		put(w, literals, symbol)
		w.Put(uint32(more), extra)
		symbol, extra, more = distanceOf(t.Dist)
		put(w, distances, symbol)
		w.Put(uint32(more), extra)
	}
	put(w, literals, 256)
	return w
}

// modelCost counts the bits by the tables of chapter 7.
func modelCost(t api.Token) int {
	literals, distances := fixedCodes()
	if t.Dist == 0 {
		return literals[t.Lit]
	}
	symbol, extra, _ := literalOf(t.Len)
	far, more, _ := distanceOf(t.Dist)
	return literals[symbol] + extra + distances[far] + more
}

func costs(t *testing.T, l []api.Token, want int, wantE api.Errno) {
	t.Helper()
	if n, e := Cost(l); n != want || e != wantE {
		t.Errorf("%v: %d, %d, not %d, %d", l, n, e, want, wantE)
	}
}

func TestP8_3EveryToken(t *testing.T) {
	costs(t, nil, 7, api.OK)
	for b := range 256 {
		x := api.Token{Lit: byte(b)}
		costs(t, []api.Token{x}, 7+modelCost(x), api.OK)
	}
	for n := 3; n <= 258; n++ {
		for _, d := range []int{1, 5, 32768} {
			x := api.Token{Len: n, Dist: d}
			costs(t, []api.Token{x}, 7+modelCost(x), api.OK)
		}
	}
	for d := 1; d <= 32768; d++ {
		x := api.Token{Len: 3 + d%256, Dist: d}
		costs(t, []api.Token{x}, 7+modelCost(x), api.OK)
	}
}

func TestP8_3Wrong(t *testing.T) {
	good := api.Token{Lit: 'a'}
	for _, x := range edges() {
		want, e := 0, api.ErrArg
		if modelValid(x) {
			want, e = 7+modelCost(x), api.OK
		}
		costs(t, []api.Token{x}, want, e)
		if e != api.OK {
			costs(t, []api.Token{good, x}, 0, e)
			costs(t, []api.Token{x, good}, 0, e)
		}
	}
	// A match that leads before the first byte is a valid token.
	costs(t, []api.Token{{Len: 3, Dist: 1}}, 19, api.OK)
}

// TestP8_3AsWritten: tokens cost what a block of kind 1 takes behind its first three bits, and the block is inflated to what they expand to.
func TestP8_3AsWritten(t *testing.T) {
	random := rand.New(rand.NewSource(5))
	for _, s := range []string{"", "a", "\xc8", "ababab", strings.Repeat("z", 600), strings.Repeat("mortise and tenon. ", 50)} {
		noise := make([]byte, 300)
		random.Read(noise)
		for _, x := range []string{s, string(noise), string(noise) + s + string(noise)} {
			l := Find(x)
			w := block(l)
			costs(t, l, w.Len()-3, api.OK)
			if out, n, e := inflate.Inflate(w.String(), len(x)); out != x || n != len(w.String()) || e != api.OK {
				t.Errorf("%q: %q, %d, %d", x, out, n, e)
			}
		}
	}
}

func TestP8_4Concatenated(t *testing.T) {
	random := rand.New(rand.NewSource(6))
	for range 500 {
		var texts [2]string
		for i := range texts {
			s := make([]byte, random.Intn(200))
			for k := range s {
				s[k] = byte(random.Intn(3) * 100)
			}
			texts[i] = string(s)
		}
		a, b := Find(texts[0]), Find(texts[1])
		both := slices.Concat(a, b)
		if s, e := Expand(both, most); s != texts[0]+texts[1] || e != api.OK {
			t.Fatalf("%q: %q, %d", texts, s, e)
		}
		n, _ := Cost(a)
		m, _ := Cost(b)
		costs(t, both, n+m-7, api.OK)
	}
}

// TestR5NothingShared: a list that was handed out changes no other answer.
func TestR5NothingShared(t *testing.T) {
	s := strings.Repeat("abc", 9)
	first := Find(s)
	want := slices.Clone(first)
	clear(first[:cap(first)])
	if l := Find(s); !slices.Equal(l, want) {
		t.Errorf("%v, not %v", l, want)
	}
}

func TestExamplesOfTheChapter(t *testing.T) {
	if s, e := Expand([]api.Token{{Lit: 'a'}, {Lit: 'b'}, {Len: 4, Dist: 2}}, most); s != "ababab" || e != api.OK {
		t.Errorf("%q, %d", s, e)
	}
	costs(t, nil, 7, api.OK)
	costs(t, []api.Token{{Lit: 'a'}}, 15, api.OK)
	costs(t, []api.Token{{Lit: 200}}, 16, api.OK)
}
