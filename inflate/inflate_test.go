package inflate

import (
	"bytes"
	"compress/flate"
	"io"
	"math"
	"math/rand"
	"slices"
	"strings"
	"testing"

	"mortise/api"
	"mortise/huff"
)

const most = 1 << 30

// The first bits of a block that is not the last one.
const (
	kindStored = "000"
	kindFixed  = "010"
	kindOwn    = "001"
	kindNone   = "011"
)

// last makes a block the last one.
func last(block string) string { return "1" + block[1:] }

// fixed is a block of kind 1: literals, and for each length the digits that belong to it.
func fixed(parts ...string) string { return kindFixed + strings.Join(parts, "") }

func literal(n int) string { return fixedLiteralCodes[n] }

func distance(n int) string { return fixedDistanceCodes[n] }

// part is a symbol of the code of lengths, and the number in its extra bits.
type part struct {
	symbol int
	more   int
}

func extraOfPart(symbol int) int {
	switch symbol {
	case 16:
		return 2
	case 17:
		return 3
	case 18:
		return 7
	}
	return 0
}

// header is what a block of kind 2 begins with: so many literals and distances, and so many lengths of the code of lengths.
func header(literals int, distances int, given int, first []int, parts ...part) string {
	h := kindOwn + number(literals-257, 5) + number(distances-1, 5) + number(given-4, 4)
	for _, symbol := range []int{16, 17, 18, 0, 8, 7, 9, 6, 10, 5, 11, 4, 12, 3, 13, 2, 14, 1, 15}[:given] {
		h += number(first[symbol], 3)
	}
	codes := codesOf(first)
	for _, p := range parts {
		h += codes[p.symbol] + number(p.more, extraOfPart(p.symbol))
	}
	return h
}

// firstOf are lengths of a code of lengths of which the given symbols have one as long as the other ones.
func firstOf(symbols ...int) []int {
	often := make([]int, 19)
	for _, s := range symbols {
		often[s] = 1
	}
	l, _ := huff.Lengths(often, 7)
	return l
}

// lead is the least header whose lengths are up to 256 noughts, and then others.
func lead(literals int, distances int, parts ...part) string {
	return header(literals, distances, 19, firstOf(0, 1, 2, 16, 17, 18), append([]part{{18, 127}, {18, 107}}, parts...)...)
}

// emptyOdd is a block of kind 2 without output, of an odd number of bits.
func emptyOdd() string {
	return header(257, 1, 19, firstOf(1, 18), part{18, 127}, part{18, 107}, part{1, 0}, part{1, 0}) + "0"
}

// ahead is blocks without output, so many that n bits behind them end with a byte.
func ahead(n int) string {
	s := ""
	if n%2 == 1 {
		s = emptyOdd()
	}
	for (len(s)+n)%8 != 0 {
		s += fixed(literal(256))
	}
	return s
}

// same holds Inflate against the model.
func same(t *testing.T, s string, limit int) api.Errno {
	t.Helper()
	want, wantN, wantE := modelInflate(s, limit)
	out, n, e := Inflate(s, limit)
	if out != want || n != wantN || e != wantE {
		t.Fatalf("%x, limit %d: %x, %d, %d, not %x, %d, %d", s, limit, out, n, e, want, wantN, wantE)
	}
	return e
}

func wants(t *testing.T, s string, limit int, out string, n int, e api.Errno) {
	t.Helper()
	if o, k, f := Inflate(s, limit); o != out || k != n || f != e {
		t.Errorf("%.80x, limit %d: %.80x, %d, %d, not %.80x, %d, %d", s, limit, o, k, f, out, n, e)
	}
}

// TestAhead: the blocks that the other tests lay ahead are as they are to be.
func TestAhead(t *testing.T) {
	for n := range 20 {
		s := ahead(n)
		if (len(s)+n)%8 != 0 {
			t.Errorf("%d and %d bits", len(s), n)
		}
		s += last(fixed(literal(256)))
		wants(t, text(s), 0, "", (len(s)+7)/8, api.OK)
	}
}

func TestP7_1AllShortStrings(t *testing.T) {
	same(t, "", 9)
	for a := range 256 {
		same(t, string([]byte{byte(a)}), 9)
		for b := range 256 {
			s := string([]byte{byte(a), byte(b)})
			same(t, s, 9)
			same(t, s+"\xff\xfe\x00\x61", 9)
		}
	}
}

func TestP7_1RandomStrings(t *testing.T) {
	random := rand.New(rand.NewSource(1))
	for range 30000 {
		s := make([]byte, random.Intn(40))
		random.Read(s)
		same(t, string(s), []int{0, 1, 5, 300, most}[random.Intn(5)])
	}
}

func TestP7_1Limit(t *testing.T) {
	for _, c := range []struct {
		limit int
		e     api.Errno
	}{{math.MinInt, api.ErrArg}, {-1, api.ErrArg}, {0, api.OK}, {most, api.OK}, {most + 1, api.ErrArg}, {math.MaxInt, api.ErrArg}} {
		n := 2
		if c.e != api.OK {
			n = 0
		}
		wants(t, "\x03\x00", c.limit, "", n, c.e)
		if c.e != api.OK { // ahead of all other errors
			wants(t, "", c.limit, "", 0, c.e)
			wants(t, "\x07", c.limit, "", 0, c.e)
		}
	}
}

// TestP7_1Stored: blocks of kind 0, with the two numbers and the data.
func TestP7_1Stored(t *testing.T) {
	full := strings.Repeat("0123456789abcde", 65535/15)
	for i, c := range []struct {
		s     string
		limit int
		out   string
		n     int
		e     api.Errno
	}{
		{"\x01\x00\x00\xff\xff", 0, "", 5, api.OK},
		{"\x01\x02\x00\xfd\xffab", 2, "ab", 7, api.OK},
		{"\xf9\x02\x00\xfd\xffab", 2, "ab", 7, api.OK}, // the bits up to the next byte do not matter
		{"\x01\x02\x00\xfd\xffabc\xff", 2, "ab", 7, api.OK},
		{"\x01\x02\x00\xfd\xffab", 1, "", 0, api.ErrLimit},
		{"\x01\x02\x00\xfd\xffa", 1, "", 0, api.ErrCut}, // the limit is of the data bytes
		{"\x01\x02\x00\xfd\xff", 0, "", 0, api.ErrCut},
		{"\x01\x02\x00\xfd", 0, "", 0, api.ErrCut},
		{"\x01\x02\x00\x00", 0, "", 0, api.ErrCut}, // no match is known only after four bytes
		{"\x01\x02\x00\x00\x00", 0, "", 0, api.ErrForm},
		{"\x01\x02\x00\xfd\xfeab", 9, "", 0, api.ErrForm},
		{"\x01\x02\x00\xfc\xffab", 9, "", 0, api.ErrForm},
		{"\x01\x02\x00\x02\x00ab", 9, "", 0, api.ErrForm},
		{"\x01\x00\x02\xff\xfdab", 9, "", 0, api.ErrCut},
		{"\x01\xff\xff\x00\x00" + full, 65535, full, 65540, api.OK},
		{"\x01\xff\xff\x00\x00" + full, 65534, "", 0, api.ErrLimit},
		{"\x01\xff\xff\x00\x00" + full[1:], most, "", 0, api.ErrCut},
		{"\x00\xff\xff\x00\x00" + full + "\x01\x01\x00\xfe\xffz", 65536, full + "z", 65546, api.OK},
		{"\x00\xff\xff\x00\x00" + full + "\x01\x01\x00\xfe\xffz", 65535, "", 0, api.ErrLimit},
		{"\x00\x01\x00\xfe\xffa", 9, "", 0, api.ErrCut},
	} {
		if out, n, e := Inflate(c.s, c.limit); out != c.out || n != c.n || e != c.e {
			t.Errorf("case %d: %.80x, %d, %d", i, out, n, e)
		}
	}
	// From each bit of a byte on, the next whole byte is the first one behind the three bits.
	for n := range 8 {
		s := text(ahead(n)+strings.Repeat(fixed(literal(256)), 4)) + "\x01\x01\x00\xfe\xffa\xff"
		same(t, s, 1)
		for k := range 8 {
			s := ahead(n) + fixed(literal(200), literal(256)) + strings.Repeat("0", k)
			same(t, text(s)+"\x01\x00\xfe\xffa\x03\x00", 9)
		}
	}
}

// bad is a block that has an error as soon as its last bit is read.
type bad struct {
	name   string
	limit  int
	digits string
	e      api.Errno
}

// TestP7_1DetectedWhen: with the last bit there is the error, whatever follows, and if all ends ahead of this bit, ErrCut.
func TestP7_1DetectedWhen(t *testing.T) {
	for _, c := range slices.Concat(badHeaders(), badLengths(), badSymbols()) {
		n := len(c.digits)
		s := text(ahead(n) + c.digits)
		if out, k, e := Inflate(text(ahead(n-1)+c.digits[:n-1]), c.limit); out != "" || k != 0 || e != api.ErrCut {
			t.Errorf("%s, cut: %x, %d, %d", c.name, out, k, e)
		}
		for _, tail := range []string{"", "\x00", "\xff\xff\xff\xff", "\x03\x00\x00\x00\x00\x00"} {
			if out, k, e := Inflate(s+tail, c.limit); out != "" || k != 0 || e != c.e {
				t.Errorf("%s: %x, %d, %d, not %d", c.name, out, k, e, c.e)
			}
			same(t, s+tail, c.limit)
		}
		for cut := range len(s) {
			wants(t, s[:cut], c.limit, "", 0, api.ErrCut)
		}
	}
}

// badHeaders are those of the three numbers, and of the code of lengths.
func badHeaders() []bad {
	numbers := func(literals int, distances int, given int) string {
		return kindOwn + number(literals-257, 5) + number(distances-1, 5) + number(given-4, 4)
	}
	first := func(given int, at map[int]int) string {
		l := make([]int, 19)
		for symbol, n := range at {
			l[symbol] = n
		}
		return header(257, 1, given, l)
	}
	l := []bad{
		{"kind 3", 9, kindNone, api.ErrForm},
		{"kind 3, last", 9, last(kindNone), api.ErrForm},
		{"287 literals", 9, numbers(287, 1, 19), api.ErrForm},
		{"288 literals", 9, numbers(288, 30, 4), api.ErrForm},
		{"31 distances", 9, numbers(257, 31, 19), api.ErrForm},
		{"32 distances", 9, numbers(286, 32, 4), api.ErrForm},
		{"both", 9, numbers(288, 32, 19), api.ErrForm},
		{"too few lengths of lengths", 9, first(4, map[int]int{16: 2}), api.ErrForm},
		{"too many", 9, first(4, map[int]int{16: 1, 17: 1, 18: 1}), api.ErrForm},
		{"too many, known early", 9, first(19, map[int]int{16: 1, 17: 1, 18: 1}), api.ErrForm},
		{"one of length 7", 9, first(18, map[int]int{1: 7}), api.ErrForm},
		{"none", 9, first(4, nil), api.ErrForm},
		{"none of all", 9, first(19, nil), api.ErrForm},
		{"16 at first", 9, header(257, 1, 4, firstOf(16, 18), part{16, 0})[:3+14+12+1], api.ErrForm},
		{"no code of lengths", 9, header(257, 1, 4, firstOf(18)) + "1", api.ErrForm},
	}
	return l
}

// badLengths are those of a block's lengths.
func badLengths() []bad {
	noughts := func(n int) part { return part{18, n - 11} }
	all := firstOf(0, 1, 2, 3, 16, 17, 18)
	return []bad{
		{"18 leads one too far", 9, header(257, 1, 19, all, noughts(138), noughts(121)), api.ErrForm},
		{"18 leads far too far", 9, header(257, 1, 19, all, noughts(138), noughts(138)), api.ErrForm},
		{"17 leads too far", 9, lead(257, 1, part{1, 0}, part{17, 0}), api.ErrForm},
		{"16 leads too far", 9, lead(257, 1, part{1, 0}, part{16, 0}), api.ErrForm},
		{"the most that leads too far", 9, header(286, 30, 19, all, noughts(138), noughts(138), noughts(38), part{1, 0}, part{16, 3}), api.ErrForm},
		{"no length but 0", 9, header(257, 1, 19, all, noughts(138), noughts(120)), api.ErrForm},
		{"256 has no code", 9, header(257, 1, 19, all, part{1, 0}, part{1, 0}, noughts(138), noughts(118)), api.ErrForm},
		{"256 has no code, a byte has one", 9, header(257, 1, 19, all, part{1, 0}, noughts(138), noughts(118), part{1, 0}), api.ErrForm},
		{"256 alone with length 2", 9, lead(257, 1, part{2, 0}, part{0, 0}), api.ErrForm},
		{"too few literals", 9, lead(258, 1, part{2, 0}, part{1, 0}, part{0, 0}), api.ErrForm},
		{"too many literals", 9, lead(259, 1, part{1, 0}, part{1, 0}, part{1, 0}, part{0, 0}), api.ErrForm},
		{"too many literals, known early", 9, lead(286, 30, part{1, 0}, part{16, 3}, part{18, 127 - 79 - 6}), api.ErrForm},
		{"one distance of length 2", 9, lead(257, 2, part{1, 0}, part{2, 0}, part{0, 0}), api.ErrForm},
		{"too few distances", 9, lead(257, 2, part{1, 0}, part{2, 0}, part{1, 0}), api.ErrForm},
		{"too many distances", 9, lead(257, 3, part{1, 0}, part{1, 0}, part{1, 0}, part{1, 0}), api.ErrForm},
		{"a 16 over the bound", 9, lead(257, 3, part{1, 0}, part{16, 0}), api.ErrForm},
	}
}

// badSymbols are those of the symbols.
func badSymbols() []bad {
	one := lead(257, 1, part{1, 0}, part{0, 0})               // 256 alone
	two := lead(258, 1, part{1, 0}, part{1, 0}, part{0, 0})   // 256 and the length 3, no distance
	alone := lead(258, 1, part{1, 0}, part{1, 0}, part{1, 0}) // these, and the distance 1
	nine := lead(266, 1, part{1, 0}, part{17, 5}, part{1, 0}, part{0, 0})
	bytes := literal(97) + literal(98) + literal(99) + literal(100)
	return []bad{
		{"no code of a literal", 9, one + "1", api.ErrForm},
		{"no code of a literal, another block", 9, one + "0" + one + "1", api.ErrForm},
		{"no distances", 9, two + "1", api.ErrForm},
		{"no distances behind extra bits", 9, nine + "10", api.ErrForm},
		{"no code of a distance", 9, alone + "11", api.ErrForm},
		{"a distance from nothing", 9, alone + "10", api.ErrForm},
		{"literal 286", 9, fixed(literal(286)), api.ErrForm},
		{"literal 287", 9, fixed(bytes, literal(287)), api.ErrForm},
		{"distance 30", 9, fixed(bytes, literal(257), distance(30)), api.ErrForm},
		{"distance 31", 9, fixed(bytes, literal(284), "11111", distance(31)), api.ErrForm},
		{"distance 1 of none", 9, fixed(literal(257), distance(0)), api.ErrForm},
		{"distance 5 of 4", 9, fixed(bytes, literal(257), distance(4), "0"), api.ErrForm},
		{"distance 6 of 4", 9, fixed(bytes, literal(257), distance(4), "1"), api.ErrForm},
		{"distance 6 of 5", 9, fixed(bytes, literal(0), literal(257), distance(4), "1"), api.ErrForm},
		{"distance 32768 of 4", 9, fixed(bytes, literal(285), distance(29), strings.Repeat("1", 13)), api.ErrForm},
		{"distance 2 of 1", 9, fixed(literal(0), literal(257), distance(1)), api.ErrForm},
		{"a byte too many", 0, fixed(literal(0)), api.ErrLimit},
		{"another byte too many", 4, fixed(bytes, literal(255)), api.ErrLimit},
		{"a byte too many, another block", 4, fixed(bytes, literal(256)) + fixed(literal(144)), api.ErrLimit},
		{"a length one too many", 6, fixed(bytes, literal(257), distance(0)), api.ErrLimit},
		{"a length far too many", 4, fixed(bytes, literal(285), distance(3)), api.ErrLimit},
		{"extra bits of a length, too many", 14, fixed(bytes, literal(265), "0", distance(3)), api.ErrLimit},
		{"extra bits of a distance, too many", 7, fixed(bytes, literal(0), literal(257), distance(4), "0"), api.ErrLimit},
		{"a length too many, but too far", 4, fixed(bytes, literal(285), distance(4), "0"), api.ErrForm},
		{"a length too many, of no distance", 4, fixed(bytes, literal(285), distance(30)), api.ErrForm},
	}
}

// matched is a fixed block that repeats bytes, behind a stored block with the bytes.
func matched(before string, length string, distance string) string {
	n := len(before)
	h := string([]byte{0, byte(n), byte(n >> 8), ^byte(n), ^byte(n >> 8)})
	return h + before + text(last(fixed(length, distance, literal(256))))
}

// repeated is what repeating bytes of a string makes of it.
func repeated(s string, length int, distance int) string {
	for range length {
		s += s[len(s)-distance : len(s)-distance+1]
	}
	return s
}

func TestP7_1EveryLength(t *testing.T) {
	seen := map[int]bool{}
	for n := 257; n < 286; n++ {
		least, extra := lengthOf(n)
		for more := range 1 << extra {
			length := least + more
			seen[length] = true
			for _, d := range []int{1, 2, 3} {
				s := matched("xyz", literal(n)+number(more, extra), distance(d-1))
				wants(t, s, 3+length, repeated("xyz", length, d), len(s), api.OK)
				wants(t, s, 2+length, "", 0, api.ErrLimit)
			}
		}
	}
	for length := 3; length <= 258; length++ {
		if !seen[length] {
			t.Errorf("no length %d", length)
		}
	}
	if len(seen) != 256 {
		t.Errorf("%d lengths", len(seen))
	}
}

func TestP7_1EveryDistance(t *testing.T) {
	random := rand.New(rand.NewSource(2))
	all := make([]byte, 32768+100)
	random.Read(all)
	next := 1 // each distance once
	for n := range 30 {
		least, extra := distanceRanges().find(n)
		if least != next {
			t.Fatalf("distance symbol %d: %d, not %d", n, least, next)
		}
		next = least + 1<<extra
		mores := []int{0, 1<<extra - 1}
		for range 4 {
			mores = append(mores, random.Intn(1<<extra))
		}
		for _, more := range mores {
			d := least + more
			digits := distance(n) + number(more, extra)
			for _, from := range []string{string(all), string(all[:d])} { // the second one: back to the first byte
				s := matched(from, literal(285), digits)
				wants(t, s, len(from)+258, repeated(from, 258, d), len(s), api.OK)
			}
			wants(t, matched(string(all[:d-1]), literal(257), digits), most, "", 0, api.ErrForm)
		}
	}
	if next != 32769 {
		t.Errorf("%d", next)
	}
}

// TestP7_1AllLiterals: each byte, by the fixed codes, and by a code of its own in which all symbols but two have 8 bits.
func TestP7_1AllLiterals(t *testing.T) {
	var all []byte
	body := ""
	for b := range 256 {
		all = append(all, byte(b))
		body += literal(b)
	}
	s := text(last(fixed(body, literal(256))))
	wants(t, s, 256, string(all), len(s), api.OK)
	first := firstOf(0, 8, 9, 16)
	parts := []part{{8, 0}}
	for range 42 {
		parts = append(parts, part{16, 3})
	}
	parts = append(parts, part{8, 0}, part{8, 0}, part{9, 0}, part{9, 0}, part{0, 0})
	h := header(257, 1, 19, first, parts...)
	own := codesOf(append(repeat(255, 8), 9, 9))
	body = ""
	for b := range 257 {
		body += own[b]
	}
	s = text(last(h + body))
	wants(t, s, 256, string(all), len(s), api.OK)
	wants(t, s, 255, "", 0, api.ErrLimit)
}

// TestP7_1OddCodes: codes of one symbol, and of no distance, are no errors by themselves; a repeated length may begin with the literals and go on with the distances.
func TestP7_1OddCodes(t *testing.T) {
	s := text(last(lead(257, 1, part{1, 0}, part{0, 0}) + "0"))
	wants(t, s, 0, "", len(s), api.OK)
	// 0, 256, 257 and 258 have two bits each, and so have four distances.
	h := header(259, 4, 19, firstOf(0, 2, 16, 17, 18), part{2, 0}, part{18, 127}, part{18, 255 - 138 - 11}, part{2, 0}, part{16, 3})
	s = text(last(h + "00" + "00" + "11" + "01" + "10" + "11" + "01"))
	wants(t, s, 9, strings.Repeat("\x00", 9), len(s), api.OK)
	wants(t, s, 8, "", 0, api.ErrLimit)
	// The most literals and distances, and a code of lengths with one symbol, of one bit.
	h = header(286, 30, 18, firstOf(1, 18), part{18, 127}, part{18, 107}, part{1, 0}, part{18, 29 - 11 + 29}, part{1, 0})
	s = text(last(h + "0"))
	wants(t, s, 0, "", len(s), api.OK)
	wants(t, text(last(header(257, 1, 4, firstOf(18), part{18, 127}, part{18, 109}))), 0, "", 0, api.ErrForm)
}

// TestP7_1AcrossBlocks: a distance may lead into earlier blocks.
func TestP7_1AcrossBlocks(t *testing.T) {
	s := text(fixed(literal('a'), literal('b'), literal(256)) + emptyOdd() + fixed(literal(257), distance(1), literal(256)) + last(fixed(literal(258), distance(4), "0", literal(256))))
	wants(t, s, 9, "ababaabab", len(s), api.OK)
	wants(t, s, 8, "", 0, api.ErrLimit)
}

func deflated(s string, level int) string {
	var b bytes.Buffer
	w, _ := flate.NewWriter(&b, level)
	w.Write([]byte(s))
	w.Close()
	return b.String()
}

// texts are of several kinds, so that a compressor chooses several kinds of blocks.
func texts() []string {
	random := rand.New(rand.NewSource(3))
	var l []string
	for _, n := range []int{0, 1, 2, 3, 10, 100, 1000, 70000, 300000} {
		noise := make([]byte, n)
		random.Read(noise)
		few := make([]byte, n)
		for i := range few {
			few[i] = "aaaaabbbccd\n"[random.Intn(12)]
		}
		l = append(l, string(noise), string(few), strings.Repeat("z", n), strings.Repeat("mortise and tenon. ", n/10))
	}
	return l
}

func TestP7_1Deflated(t *testing.T) {
	for _, s := range texts() {
		for _, level := range []int{flate.HuffmanOnly, 0, 1, 6, 9} {
			d := deflated(s, level)
			wants(t, d, len(s), s, len(d), api.OK)
			wants(t, d, most, s, len(d), api.OK)
			if s != "" {
				wants(t, d, len(s)-1, "", 0, api.ErrLimit)
				wants(t, d, len(s)/2, "", 0, api.ErrLimit)
			}
			for cut := 0; cut < len(d); cut += 1 + len(d)/20 {
				wants(t, d[:cut], most, "", 0, api.ErrCut)
			}
			wants(t, d[:len(d)-1], len(s), "", 0, api.ErrCut)
		}
	}
}

// TestP7_2Behind: what follows the last block does not matter, not even the rest of its last byte.
func TestP7_2Behind(t *testing.T) {
	for _, s := range texts()[:24] {
		d := deflated(s, 6)
		for _, tail := range []string{"\x00", "\xff", "\x07\x07\x07", d, strings.Repeat("\xff", 5000)} {
			wants(t, d+tail, len(s), s, len(d), api.OK)
		}
	}
	for n := range 9 { // so many bits of 9 end the last byte
		block := last(fixed(strings.Repeat(literal(200), n), literal(256)))
		whole := len(text(block))
		for _, rest := range []string{"", "1111111111", "0000000", "011"} {
			wants(t, text(block+rest), n, strings.Repeat("\xc8", n), whole, api.OK)
		}
	}
}

// builder makes streams of any blocks; now and then what it writes is not valid.
type builder struct {
	random *rand.Rand
	wild   bool
	digits string
	done   int // bytes of output, if nothing is wrong
}

// code is lengths of a code for some of n symbols.
func (b *builder) code(n int, must int) []int {
	often := make([]int, n)
	for range b.random.Intn(1 + b.random.Intn(2*n)) {
		often[b.random.Intn(n)] = 1 << b.random.Intn(20)
	}
	if must >= 0 {
		often[must] = 1 + b.random.Intn(9)
	}
	l, _ := huff.Lengths(often, []int{9, 12, 15}[b.random.Intn(3)])
	if b.wild && b.random.Intn(12) == 0 {
		l[b.random.Intn(n)] = b.random.Intn(16)
	}
	return l
}

// parts writes lengths as symbols of the code of lengths, in any way.
func (b *builder) parts(l []int) []part {
	var parts []part
	for i := 0; i < len(l); {
		run := 1
		for i+run < len(l) && l[i+run] == l[i] {
			run++
		}
		p, n := part{symbol: l[i]}, 1
		switch k := b.random.Intn(4); {
		case k > 0 && i > 0 && l[i] == l[i-1] && run >= 3:
			n = 3 + b.random.Intn(min(run, 6)-2)
			p = part{16, n - 3}
		case k > 1 && l[i] == 0 && run >= 11:
			n = 11 + b.random.Intn(min(run, 138)-10)
			p = part{18, n - 11}
		case k > 0 && l[i] == 0 && run >= 3:
			n = 3 + b.random.Intn(min(run, 10)-2)
			p = part{17, n - 3}
		}
		parts = append(parts, p)
		i += n
	}
	if b.wild && b.random.Intn(8) == 0 {
		parts[b.random.Intn(len(parts))] = part{16 + b.random.Intn(3), 0}
	}
	return parts
}

func (b *builder) own() {
	literals := b.code(257+b.random.Intn(30), 256)
	distances := b.code(1+b.random.Intn(30), -1)
	parts := b.parts(append(slices.Clone(literals), distances...))
	often := make([]int, 19)
	for _, p := range parts {
		often[p.symbol]++
	}
	first, _ := huff.Lengths(often, 7)
	b.digits += header(len(literals), len(distances), 19, first, parts...)
	b.symbols(codesOf(literals), codesOf(distances))
}

// with are the symbols that have a code.
func with(codes []string) []int {
	var l []int
	for symbol, c := range codes {
		if c != "" {
			l = append(l, symbol)
		}
	}
	return l
}

func (b *builder) symbols(lit []string, dist []string) {
	some, far := with(lit), with(dist)
	if len(some) == 0 {
		return
	}
	for range b.random.Intn(60) {
		n := some[b.random.Intn(len(some))]
		if n < 256 {
			b.digits += lit[n]
			b.done++
		} else if n > 256 && len(far) > 0 {
			b.match(n, far[b.random.Intn(len(far))], lit, dist)
		}
	}
	b.digits += lit[256]
}

func (b *builder) match(n int, d int, lit []string, dist []string) {
	length, extra := lengthOf(n)
	least, more := distanceRanges().find(d)
	x, y := b.random.Intn(1<<extra), b.random.Intn(1<<more)
	if (n > 285 || d > 29 || least+y > b.done) && !(b.wild && b.random.Intn(10) == 0) {
		return
	}
	b.digits += lit[n] + number(x, extra) + dist[d] + number(y, more)
	b.done += length + x
}

func (b *builder) stored() {
	s := make([]byte, b.random.Intn(300))
	b.random.Read(s)
	n := len(s)
	b.digits += kindStored
	for len(b.digits)%8 != 0 {
		b.digits += "1"
	}
	if b.wild && b.random.Intn(5) == 0 {
		n++
	}
	b.digits += number(n, 16) + number(^len(s), 16) + digitsOf(string(s))
	b.done += len(s)
}

// build writes some blocks, and tells how many bytes they stand for.
func (b *builder) build() (string, int) {
	from := 0
	for range 1 + b.random.Intn(5) {
		from = len(b.digits)
		switch b.random.Intn(5) {
		case 0:
			b.stored()
		case 1, 2:
			b.digits += kindFixed
			b.symbols(fixedLiteralCodes, fixedDistanceCodes)
		default:
			b.own()
		}
	}
	return text(b.digits[:from] + last(b.digits[from:])), b.done
}

func TestP7_1BuiltStreams(t *testing.T) {
	random := rand.New(rand.NewSource(4))
	for range 1000 {
		s, n := (&builder{random: random}).build()
		out, k, e := Inflate(s, n)
		if len(out) != n || k != len(s) || e != api.OK {
			t.Fatalf("%x: %d bytes, %d, %d, not %d", s, len(out), k, e, n)
		}
		same(t, s, n)
		if n > 0 {
			wants(t, s, n-1, "", 0, api.ErrLimit)
		}
		plain, err := io.ReadAll(flate.NewReader(strings.NewReader(s)))
		if err != nil || string(plain) != out {
			t.Fatalf("%x: %x, not %x: %v", s, out, plain, err)
		}
	}
}

// TestP7_1ChangedStreams: with some bits changed or cut off, or written wrong, there is the model's error.
func TestP7_1ChangedStreams(t *testing.T) {
	random := rand.New(rand.NewSource(5))
	seen := map[api.Errno]int{}
	for range 3000 {
		s, n := (&builder{random: random, wild: true}).build()
		b := []byte(s)
		for range random.Intn(3) {
			b[random.Intn(len(b))] ^= 1 << random.Intn(8)
		}
		if random.Intn(4) == 0 {
			b = b[:random.Intn(len(b))]
		}
		limit := n + 1000
		if random.Intn(4) == 0 {
			limit = random.Intn(n + 1)
		}
		seen[same(t, string(b), limit)]++
	}
	for _, e := range []api.Errno{api.OK, api.ErrCut, api.ErrForm, api.ErrLimit} {
		if seen[e] < 100 {
			t.Errorf("error %d: %d times", e, seen[e])
		}
	}
}

// TestManyBlocks: very many small blocks, and a short string with a long output, take no long time.
func TestManyBlocks(t *testing.T) {
	s := strings.Repeat(text(strings.Repeat(fixed(literal(256)), 4)), 100000) + "\x03\x00"
	wants(t, s, 0, "", len(s), api.OK)
	s = strings.Repeat("\x00\x00\x00\xff\xff", 200000) + "\x03\x00"
	wants(t, s, 0, "", len(s), api.OK)
	long := strings.Repeat("\x00", 1<<25)
	d := deflated(long, 9)
	wants(t, d, len(long), long, len(d), api.OK)
}

// TestR6AskedAgain: an answer does not depend on earlier calls.
func TestR6AskedAgain(t *testing.T) {
	good, cut, wrong := "\x4b\x44\x00\x00", "\x4b\x44", "\x03\x02\x00"
	for range 3 {
		wants(t, good, 11, "aaaaaaaaaaa", 4, api.OK)
		wants(t, cut, 11, "", 0, api.ErrCut)
		wants(t, wrong, 11, "", 0, api.ErrForm)
		wants(t, good, 10, "", 0, api.ErrLimit)
		wants(t, "\x07", 10, "", 0, api.ErrForm)
	}
}

func TestExamplesOfTheChapter(t *testing.T) {
	wants(t, "\x03\x00", most, "", 2, api.OK)
	wants(t, "\x01\x01\x00\xfe\xffa", most, "a", 6, api.OK)
	wants(t, "\x07", most, "", 0, api.ErrForm)
}
