package deflate

import (
	"strings"
	"testing"

	"mortise/api"
	"mortise/bits"
	"mortise/huff"
)

// Blocks are built here as texts of digits 0 and 1, in the order of the bits, from the chapters' own words.

// number is n digits, the lowest one first, as extra bits are written.
func number(v int, n int) string {
	var b strings.Builder
	for i := range n {
		b.WriteByte('0' + byte(v>>i&1))
	}
	return b.String()
}

// highest is n digits, the highest one first, as codes are written.
func highest(v int, n int) string {
	var b strings.Builder
	for i := n - 1; i >= 0; i-- {
		b.WriteByte('0' + byte(v>>i&1))
	}
	return b.String()
}

// text is the bytes of digits, padded with 0.
func text(digits string) string {
	s := make([]byte, (len(digits)+7)/8)
	for i := range len(digits) {
		s[i/8] |= (digits[i] - '0') << (i % 8)
	}
	return string(s)
}

// fixedCode is the code of a literal: those of 7 bits are 0 to 23, those of 8 bits 48 to 191 and then 192 to 199, those of 9 bits 400 to 511.
func fixedCode(literal int) string {
	switch {
	case literal <= 143:
		return highest(48+literal, 8)
	case literal <= 255:
		return highest(400+literal-144, 9)
	case literal <= 279:
		return highest(literal-256, 7)
	}
	return highest(192+literal-280, 8)
}

// ranges are the least numbers of the symbols as chapter 7 lists them, in groups: the first one has no extra bits, each other one a bit more than the group ahead.
type ranges [][]int

func lengthRanges() ranges {
	return ranges{{3, 4, 5, 6, 7, 8, 9, 10}, {11, 13, 15, 17}, {19, 23, 27, 31}, {35, 43, 51, 59}, {67, 83, 99, 115}, {131, 163, 195, 227}}
}

func distanceRanges() ranges {
	return ranges{{1, 2, 3, 4}, {5, 7}, {9, 13}, {17, 25}, {33, 49}, {65, 97}, {129, 193}, {257, 385}, {513, 769}, {1025, 1537}, {2049, 3073}, {4097, 6145}, {8193, 12289}, {16385, 24577}}
}

// row is the least number of a symbol, and how many extra bits it has.
type row struct {
	least int
	extra int
}

func (r ranges) rows() []row {
	var l []row
	for extra, group := range r {
		for _, least := range group {
			l = append(l, row{least, extra})
		}
	}
	return l
}

// lengthRows belong to the literals from 257 on.
func lengthRows() []row { return append(lengthRanges().rows(), row{258, 0}) }

// symbolOf is the last symbol whose least number is not above n.
func symbolOf(n int, rows []row) (int, string) {
	found := 0
	for i, r := range rows {
		if r.least <= n {
			found = i
		}
	}
	return found, number(n-rows[found].least, rows[found].extra)
}

func modelValid(t api.Token) bool {
	if t.Dist == 0 {
		return t.Len == 0
	}
	return 1 <= t.Dist && t.Dist <= 32768 && 3 <= t.Len && t.Len <= 258 && t.Lit == 0
}

// modelFixed is Fixed as the chapter tells it.
func modelFixed(l []api.Token) (string, api.Errno) {
	lengths, distances := lengthRows(), distanceRanges().rows()
	var b strings.Builder
	b.WriteString("110")
	for _, t := range l {
		if !modelValid(t) {
			return "", api.ErrArg
		}
		if t.Dist == 0 {
			b.WriteString(fixedCode(int(t.Lit)))
			continue
		}
		symbol, more := symbolOf(t.Len, lengths)
		b.WriteString(fixedCode(257+symbol) + more)
		symbol, more = symbolOf(t.Dist, distances)
		b.WriteString(highest(symbol, 5) + more)
	}
	b.WriteString(fixedCode(256))
	return text(b.String()), api.OK
}

// modelStored is Stored as the chapter tells it.
func modelStored(s string) string {
	out := ""
	for {
		n := min(len(s), 65535)
		last := "\x00"
		if n == len(s) {
			last = "\x01"
		}
		out += last + text(number(n, 16)+number(65535-n, 16)) + s[:n]
		if n == len(s) {
			return out
		}
		s = s[n:]
	}
}

// blockReader reads a block of kind 2 as tokens.
type blockReader struct {
	t    *testing.T
	from *bits.Reader
}

func (b *blockReader) number(n int) int {
	b.t.Helper()
	v, e := b.from.Bits(n)
	if e != api.OK {
		b.t.Fatalf("bit %d: %d more: %d", b.from.At(), n, e)
	}
	return int(v)
}

func (b *blockReader) symbol(t *huff.Table) int {
	b.t.Helper()
	n, e := t.Next(b.from)
	if e != api.OK {
		b.t.Fatalf("bit %d: no symbol: %d", b.from.At(), e)
	}
	return n
}

func (b *blockReader) table(lengths []int) *huff.Table {
	b.t.Helper()
	t, e := huff.New(lengths)
	if e != api.OK {
		b.t.Fatalf("%v: no code: %d", lengths, e)
	}
	return t
}

// header returns the lengths of the literals and of the distances.
func (b *blockReader) header() ([]int, []int) {
	b.t.Helper()
	literals, distances, given := b.number(5)+257, b.number(5)+1, b.number(4)+4
	if literals > 286 || distances > 30 {
		b.t.Fatalf("%d literals, %d distances", literals, distances)
	}
	first := make([]int, 19)
	for _, symbol := range []int{16, 17, 18, 0, 8, 7, 9, 6, 10, 5, 11, 4, 12, 3, 13, 2, 14, 1, 15}[:given] {
		first[symbol] = b.number(3)
	}
	t := b.table(first)
	var l []int
	for len(l) < literals+distances {
		length, times := b.symbol(t), 1
		switch length {
		case 16:
			length, times = l[len(l)-1], 3+b.number(2)
		case 17:
			length, times = 0, 3+b.number(3)
		case 18:
			length, times = 0, 11+b.number(7)
		}
		for range times {
			l = append(l, length)
		}
	}
	if len(l) != literals+distances {
		b.t.Fatalf("%d lengths, not %d", len(l), literals+distances)
	}
	return l[:literals], l[literals:]
}

// tokens reads the last block, and returns its tokens.
func (b *blockReader) tokens() []api.Token {
	b.t.Helper()
	if last, kind := b.number(1), b.number(2); last != 1 || kind != 2 {
		b.t.Fatalf("a block of kind %d, %d", kind, last)
	}
	literals, distances := b.header()
	lit, dist := b.table(literals), b.table(distances)
	lengths, far := lengthRows(), distanceRanges().rows()
	var l []api.Token
	for {
		n := b.symbol(lit)
		if n == 256 {
			return l
		}
		if n < 256 {
			l = append(l, api.Token{Lit: byte(n)})
			continue
		}
		r := lengths[n-257]
		length := r.least + b.number(r.extra)
		if length == 258 && n != 285 {
			b.t.Fatalf("258 as %d", n)
		}
		r = far[b.symbol(dist)]
		l = append(l, api.Token{Len: length, Dist: r.least + b.number(r.extra)})
	}
}
