package deflate

import (
	"compress/flate"
	"io"
	"math"
	"math/rand"
	"slices"
	"strings"
	"testing"

	"mortise/api"
	"mortise/bits"
	"mortise/huff"
	"mortise/inflate"
	"mortise/match"
)

const most = 1 << 30

// noise is n bytes, the same ones each time.
func noise(n int) string {
	b := make([]byte, n)
	rand.New(rand.NewSource(int64(n))).Read(b)
	return string(b)
}

// inflated holds that the blocks inflate to s, also by another reader, and that nothing follows them.
func inflated(t *testing.T, blocks string, s string) {
	t.Helper()
	for _, limit := range []int{len(s), len(s) + 1, most} {
		if out, n, e := inflate.Inflate(blocks, limit); out != s || n != len(blocks) || e != api.OK {
			t.Fatalf("%.60x, limit %d: %.60x (%d bytes), %d of %d, %d, not %.60x (%d bytes)", blocks, limit, out, len(out), n, len(blocks), e, s, len(s))
		}
	}
	if plain, err := io.ReadAll(flate.NewReader(strings.NewReader(blocks))); err != nil || string(plain) != s {
		t.Fatalf("%.60x: another reader: %.60x, %v, not %.60x", blocks, plain, err, s)
	}
}

func TestP9_1Stored(t *testing.T) {
	for _, n := range []int{0, 1, 2, 255, 256, 257, 32768, 65534, 65535, 65536, 65537, 131069, 131070, 131071, 196605, 200000} {
		for _, s := range []string{noise(n), strings.Repeat("\x00", n), strings.Repeat("\xff", n)} {
			got := Stored(s)
			if got != modelStored(s) {
				t.Errorf("%d bytes: %.40x (%d bytes)", n, got, len(got))
			}
			if blocks := max((n+65534)/65535, 1); len(got) != n+5*blocks {
				t.Errorf("%d bytes: %d", n, len(got))
			}
			inflated(t, got, s)
		}
	}
}

// sameFixed holds Fixed against the model, and against what match says that it costs.
func sameFixed(t *testing.T, l []api.Token) {
	t.Helper()
	want, wantE := modelFixed(l)
	s, e := Fixed(l)
	if s != want || e != wantE {
		t.Fatalf("%.3v: %.60x, %d, not %.60x, %d", l, s, e, want, wantE)
	}
	if cost, e := match.Cost(l); e == api.OK && len(s) != (3+cost+7)/8 {
		t.Fatalf("%.3v: %d bytes, but %d bits", l, len(s), cost)
	}
}

func TestP9_2EveryToken(t *testing.T) {
	sameFixed(t, nil)
	sameFixed(t, []api.Token{})
	for b := range 256 {
		sameFixed(t, []api.Token{{Lit: byte(b)}})
		sameFixed(t, []api.Token{{Lit: byte(b)}, {Lit: 'a'}, {Lit: byte(255 - b)}})
	}
	for n := 3; n <= 258; n++ {
		for _, d := range []int{1, 2, 5, 300, 32768} {
			sameFixed(t, []api.Token{{Len: n, Dist: d}})
		}
	}
	for d := 1; d <= 32768; d++ {
		sameFixed(t, []api.Token{{Len: 3 + d%256, Dist: d}})
	}
}

// TestP9_2EveryBit: tokens begin at each bit of a byte, and end at each.
func TestP9_2EveryBit(t *testing.T) {
	for ahead := range 9 {
		l := slices.Repeat([]api.Token{{Lit: 200}}, ahead)
		for behind := range 9 {
			l := append(slices.Clone(l), api.Token{Len: 258, Dist: 32768}, api.Token{Len: 257, Dist: 24577})
			sameFixed(t, append(l, slices.Repeat([]api.Token{{Lit: 144}}, behind)...))
		}
	}
}

// edges are tokens at the bounds of validity, and behind them.
func edges() []api.Token {
	var l []api.Token
	for _, lit := range []byte{0, 1, 143, 144, 255} {
		for _, n := range []int{math.MinInt, -3, -1, 0, 1, 2, 3, 4, 257, 258, 259, math.MaxInt} {
			for _, d := range []int{math.MinInt, -1, 0, 1, 2, 4, 5, 24576, 24577, 32767, 32768, 32769, math.MaxInt} {
				l = append(l, api.Token{Lit: lit, Len: n, Dist: d})
			}
		}
	}
	return l
}

// TestWrongTokens is of P9.2 and P9.3: a token that is not valid is an error wherever it stands; one that leads before the first byte is valid.
func TestWrongTokens(t *testing.T) {
	good := api.Token{Lit: 'a'}
	valid := 0
	for _, x := range edges() {
		for _, l := range [][]api.Token{{x}, {good, x}, {x, good}, {good, x, {Len: 258, Dist: 1}}, {{Len: 3, Dist: 3}, x}} {
			sameFixed(t, l)
			s, e := Dynamic(l)
			if modelValid(x) {
				valid++
				sameDynamic(t, l)
			} else if s != "" || e != api.ErrArg {
				t.Fatalf("%v: %x, %d", l, s, e)
			}
		}
	}
	if valid == 0 {
		t.Error("no valid token")
	}
}

// sameDynamic holds that a block of kind 2 has exactly these tokens.
func sameDynamic(t *testing.T, l []api.Token) {
	t.Helper()
	s, e := Dynamic(l)
	if e != api.OK {
		t.Fatalf("%.3v: %d", l, e)
	}
	b := &blockReader{t, bits.New(s)}
	if got := b.tokens(); !slices.Equal(got, l) {
		t.Fatalf("%.3v (%d): %.3v (%d)", l, len(l), got, len(got))
	}
	if n := (b.from.At() + 7) / 8; n != len(s) {
		t.Fatalf("%.3v: %d bytes of %d", l, n, len(s))
	}
	if out, e := match.Expand(l, most); e == api.OK {
		inflated(t, s, out)
	} else if out, n, f := inflate.Inflate(s, most); out != "" || n != 0 || f != e {
		t.Fatalf("%.3v: %x, %d, %d, not %d", l, out, n, f, e)
	}
}

func TestP9_3EveryToken(t *testing.T) {
	sameDynamic(t, nil)
	for b := range 256 {
		sameDynamic(t, []api.Token{{Lit: byte(b)}})
		sameDynamic(t, slices.Repeat([]api.Token{{Lit: byte(b)}, {Lit: byte(b * 7)}}, 20))
	}
	for n := 3; n <= 258; n++ {
		sameDynamic(t, []api.Token{{Lit: 'a'}, {Len: n, Dist: 1}})
		sameDynamic(t, []api.Token{{Lit: 'a'}, {Lit: 'b'}, {Len: n, Dist: 2}, {Lit: 'c'}, {Len: 258, Dist: 3}, {Len: n, Dist: 1}})
	}
	before := bytesOf(noise(32768))
	for _, r := range distanceRanges().rows() {
		for _, d := range []int{r.least, r.least + 1<<r.extra/2, r.least + 1<<r.extra - 1} {
			sameDynamic(t, append(slices.Clone(before[:d]), api.Token{Len: 3, Dist: d}))
			sameDynamic(t, []api.Token{{Len: 3, Dist: d}})
		}
	}
}

// bytesOf is a string as tokens, without a match.
func bytesOf(s string) []api.Token {
	var l []api.Token
	for i := range len(s) {
		l = append(l, api.Token{Lit: s[i]})
	}
	return l
}

// TestP9_3AllSymbols: all literals and all distances in one block, and as few of each as may be.
func TestP9_3AllSymbols(t *testing.T) {
	l := bytesOf(noise(32768))
	for b := range 256 {
		l = append(l, api.Token{Lit: byte(b)})
	}
	far := distanceRanges().rows()
	for i, r := range lengthRows() {
		l = append(l, api.Token{Len: r.least, Dist: far[i].least}, api.Token{Len: r.least + 1<<r.extra - 1 - i/27, Dist: far[29-i].least})
	}
	sameDynamic(t, l)
	s, _ := Dynamic(l)
	b := &blockReader{t, bits.New(s)}
	b.number(3)
	if lit, dist := b.header(); slices.Contains(lit, 0) || slices.Contains(dist, 0) || len(lit) != 286 || len(dist) != 30 {
		t.Errorf("%v, %v", lit, dist)
	}
	s, _ = Dynamic(nil)
	b = &blockReader{t, bits.New(s)}
	b.number(3)
	if lit, dist := b.header(); len(lit) != 257 || len(dist) != 1 || lit[256] != 1 || dist[0] != 0 {
		t.Errorf("%v, %v", lit, dist)
	}
}

// fibonacci are numbers for which the best code would be as long as there are numbers.
func fibonacci(n int) []int {
	l := []int{1, 1}
	for len(l) < n {
		l = append(l, l[len(l)-1]+l[len(l)-2])
	}
	return l
}

// TestP9_3LongCodes: the best codes of literals and distances would be longer than 15 bits.
func TestP9_3LongCodes(t *testing.T) {
	var l []api.Token
	for b, often := range fibonacci(22) {
		l = append(l, slices.Repeat([]api.Token{{Lit: byte(b * 11)}}, often)...)
	}
	sameDynamic(t, l)
	l = bytesOf(noise(2000))
	far := distanceRanges().rows()
	for i, often := range fibonacci(20) {
		l = append(l, slices.Repeat([]api.Token{{Len: 3 + i, Dist: far[i].least}}, often)...)
	}
	sameDynamic(t, l)
}

// split are lengths of a code for n symbols: each next symbol comes by splitting another one's code.
func split(random *rand.Rand, n int) []int {
	l := []int{0}
	for len(l) < n {
		if i := random.Intn(len(l)); l[i] < 14 {
			l[i]++
			l = append(l, l[i])
		}
	}
	return l
}

// TestP9_3LongCodeOfLengths: the best code of lengths would be longer than 7 bits.
func TestP9_3LongCodeOfLengths(t *testing.T) {
	random := rand.New(rand.NewSource(1))
	long := 0
	for range 30 {
		var l []api.Token
		for b, n := range split(random, 256) {
			l = append(l, slices.Repeat([]api.Token{{Lit: byte(b)}}, 1<<(15-n))...)
		}
		sameDynamic(t, l)
		var often [19]int
		c := ownCodes(l)
		for _, p := range parts(slices.Concat(c.literals.lengths, c.distances.lengths)) {
			often[p.index]++
		}
		if free, _ := huff.Lengths(often[:], 15); slices.Max(free) > 7 {
			long++
		}
	}
	if long == 0 {
		t.Error("no such code")
	}
}

// TestP9_3Runs: symbols that have no code, or one of the same length, in runs of all numbers.
func TestP9_3Runs(t *testing.T) {
	for n := range 256 {
		l := bytesOf(string([]byte{0, byte(n)}))
		sameDynamic(t, l)
		l = nil
		for b := range n + 1 {
			l = append(l, api.Token{Lit: byte(b)})
		}
		sameDynamic(t, l)
		for i := range l {
			l[i].Lit += byte(255 - n)
		}
		sameDynamic(t, l)
	}
	// A run may go on from the literals into the distances.
	for n := 3; n <= 10; n++ {
		for d := range 9 {
			sameDynamic(t, []api.Token{{Lit: 1}, {Lit: 2}, {Lit: 3}, {Lit: 4}, {Lit: 5}, {Len: 3, Dist: 1 + d/2}, {Len: n, Dist: 1 + d/3}, {Len: 4, Dist: 2}, {Len: 3, Dist: 3}})
		}
	}
}

// TestParts is of the code of lengths: what its symbols stand for is what they were made of.
func TestParts(t *testing.T) {
	random := rand.New(rand.NewSource(2))
	for range 3000 {
		var l []int
		for range 1 + random.Intn(12) {
			l = append(l, slices.Repeat([]int{random.Intn(3) * random.Intn(8)}, 1+random.Intn(1<<random.Intn(9)))...)
		}
		var got []int
		for _, p := range parts(l) {
			length, times := p.index, 1
			switch p.index {
			case 16:
				length, times = got[len(got)-1], 3+int(p.more)
			case 17:
				length, times = 0, 3+int(p.more)
			case 18:
				length, times = 0, 11+int(p.more)
			}
			if p.more>>p.extra != 0 || p.extra != map[int]int{16: 2, 17: 3, 18: 7}[p.index] {
				t.Fatalf("%v: %v", l, p)
			}
			got = append(got, slices.Repeat([]int{length}, times)...)
		}
		if !slices.Equal(got, l) {
			t.Fatalf("%v, not %v", got, l)
		}
	}
}

// randomTokens are valid; most of them lead back to what there is.
func randomTokens(random *rand.Rand) []api.Token {
	var l []api.Token
	done := 0
	for range random.Intn(1 << random.Intn(9)) {
		if done == 0 || random.Intn(3) > 0 {
			l = append(l, api.Token{Lit: byte(random.Intn(1 + random.Intn(256)))})
			done++
			continue
		}
		x := api.Token{Len: 3 + random.Intn(1+random.Intn(256)), Dist: 1 + random.Intn(min(done, 32768))}
		if random.Intn(500) == 0 {
			x.Dist = 1 + random.Intn(32768)
		}
		l = append(l, x)
		done += x.Len
	}
	return l
}

// TestRandomTokens is of P9.2 and P9.3.
func TestRandomTokens(t *testing.T) {
	random := rand.New(rand.NewSource(3))
	for range 3000 {
		l := randomTokens(random)
		sameFixed(t, l)
		sameDynamic(t, l)
	}
}

// texts are of several kinds, so that each kind of blocks is the shortest of some.
func texts() []string {
	random := rand.New(rand.NewSource(4))
	var l []string
	for _, n := range []int{0, 1, 2, 3, 4, 5, 10, 100, 1000, 65535, 65536, 70000, 150000} {
		few := make([]byte, n)
		for i := range few {
			few[i] = "aaaaabbbccd\n"[random.Intn(12)]
		}
		l = append(l, noise(n), string(few), strings.Repeat("z", n), strings.Repeat("\x00", n), strings.Repeat("mortise and tenon. ", n/19), noise(n/2)+string(few[:n/2]))
	}
	return append(l, noise(40000)+noise(40000), noise(32768)+noise(32768))
}

// sameDeflated holds what Deflate returns for a string against the promise.
func sameDeflated(t *testing.T, s string) {
	t.Helper()
	d := Deflate(s)
	inflated(t, d, s)
	f, e := Fixed(match.Find(s))
	if e != api.OK || len(d) > len(f) || len(d) > len(Stored(s)) {
		t.Fatalf("%.40q: %d bytes, fixed %d, stored %d", s, len(d), len(f), len(Stored(s)))
	}
	if s != "" {
		if out, n, e := inflate.Inflate(d, len(s)-1); out != "" || n != 0 || e != api.ErrLimit {
			t.Fatalf("%.40q: %d bytes, %d, %d", s, len(out), n, e)
		}
	}
}

func TestP9_4Deflate(t *testing.T) {
	for _, s := range texts() {
		sameDeflated(t, s)
	}
	for b := range 256 {
		sameDeflated(t, string([]byte{byte(b)}))
	}
}

// TestDeflateChooses: each kind of blocks is taken where it is the shortest.
func TestDeflateChooses(t *testing.T) {
	few := strings.Repeat("mortise and tenon. ", 3)
	many := noise(30)
	for i := range 3000 {
		many += string([]byte{"abcd"[i*i*i%31%4], byte('a' + i*i%37%5)})
	}
	for _, c := range []struct {
		s    string
		kind byte
	}{{"", kindFixed}, {"a", kindFixed}, {few, kindFixed}, {noise(1000), kindStored}, {noise(70000), kindStored}, {many, kindOwn}, {strings.Repeat("z", 100000), kindOwn}} {
		if kind := Deflate(c.s)[0] >> 1 & 3; kind != c.kind {
			t.Errorf("%.40q (%d bytes): kind %d", c.s, len(c.s), kind)
		}
	}
}

// TestP9_5InflatedAgain: all short strings over some letters, and many others.
func TestP9_5InflatedAgain(t *testing.T) {
	l := []string{""}
	for first := 0; len(l[first]) < 9; first++ {
		for _, c := range []string{"a", "\xff"} {
			l = append(l, l[first]+c)
		}
	}
	random := rand.New(rand.NewSource(5))
	for range 1000 {
		b := make([]byte, random.Intn(1<<random.Intn(12)))
		kinds := 1 + random.Intn(1<<random.Intn(9))
		for i := range b {
			b[i] = byte(random.Intn(kinds))
		}
		l = append(l, string(b))
	}
	for _, s := range l {
		sameDeflated(t, s)
		inflated(t, Stored(s), s)
		found := match.Find(s)
		for _, block := range []func([]api.Token) (string, api.Errno){Fixed, Dynamic} {
			b, e := block(found)
			if e != api.OK {
				t.Fatalf("%q: %d", s, e)
			}
			inflated(t, b, s)
		}
	}
}

// TestR5ArgumentsUnchanged, and R6: asked again, there is the same answer.
func TestR5ArgumentsUnchanged(t *testing.T) {
	l := slices.Grow(match.Find(strings.Repeat("abc", 90)+noise(50)), 9)
	behind := l[:cap(l)]
	given := slices.Clone(behind)
	fixed, _ := Fixed(l)
	own, _ := Dynamic(l)
	for range 3 {
		Fixed([]api.Token{{Lit: 'x'}})
		Dynamic([]api.Token{{Lit: 'x'}, {Len: 1}})
		Deflate("other")
		f, e := Fixed(l)
		d, g := Dynamic(l)
		if f != fixed || d != own || e != api.OK || g != api.OK || !slices.Equal(behind, given) {
			t.Errorf("%x, %x, not %x, %x", f, d, fixed, own)
		}
	}
	for _, s := range texts()[:40] {
		if Deflate(s) != Deflate(s) || Stored(s) != Stored(s) {
			t.Errorf("%.40q: another answer", s)
		}
	}
}

func TestExamplesOfTheChapter(t *testing.T) {
	if s := Stored(""); s != "\x01\x00\x00\xff\xff" {
		t.Errorf("%x", s)
	}
	if s, e := Fixed(nil); s != "\x03\x00" || e != api.OK {
		t.Errorf("%x, %d", s, e)
	}
	if s, e := Fixed([]api.Token{{Lit: 'a'}}); s != "\x4b\x04\x00" || e != api.OK {
		t.Errorf("%x, %d", s, e)
	}
}
