package inflate

import (
	"slices"
	"strings"

	"mortise/api"
	"mortise/bits"
	"mortise/huff"
)

// Streams are built and read here as texts of digits 0 and 1, in the order of the bits.

// number is n digits, the lowest one first.
func number(v int, n int) string {
	var b strings.Builder
	for i := range n {
		b.WriteByte('0' + byte(v>>i&1))
	}
	return b.String()
}

func value(digits string) int {
	v := 0
	for i, d := range digits {
		v |= int(d-'0') << i
	}
	return v
}

func text(digits string) string {
	var w bits.Writer
	for _, d := range digits {
		w.Put(uint32(d-'0'), 1)
	}
	return w.String()
}

func digitsOf(s string) string {
	var b strings.Builder
	for i := range len(s) {
		b.WriteString(number(int(s[i]), 8))
	}
	return b.String()
}

// repeat is a list of n times x.
func repeat(n int, x int) []int { return slices.Repeat([]int{x}, n) }

// codesOf are the codes of lengths as digits, the highest one first; empty for a symbol without a code, and for all of them if the lengths form no code.
func codesOf(lengths []int) []string {
	l := make([]string, len(lengths))
	codes, _ := huff.Codes(lengths)
	for symbol, code := range codes {
		for i := lengths[symbol] - 1; i >= 0; i-- {
			l[symbol] += string('0' + byte(code>>i&1))
		}
	}
	return l
}

// The fixed codes.
var (
	fixedLiteralCodes  = codesOf(slices.Concat(repeat(144, 8), repeat(112, 9), repeat(24, 7), repeat(8, 8)))
	fixedDistanceCodes = codesOf(repeat(32, 5))
)

// ranges are the least numbers of the symbols as the chapter lists them, in groups with the same number of extra bits: the first group has none.
type ranges [][]int

func lengthRanges() ranges {
	return ranges{{3, 4, 5, 6, 7, 8, 9, 10}, {11, 13, 15, 17}, {19, 23, 27, 31}, {35, 43, 51, 59}, {67, 83, 99, 115}, {131, 163, 195, 227}}
}

func distanceRanges() ranges {
	return ranges{{1, 2, 3, 4}, {5, 7}, {9, 13}, {17, 25}, {33, 49}, {65, 97}, {129, 193}, {257, 385}, {513, 769}, {1025, 1537}, {2049, 3073}, {4097, 6145}, {8193, 12289}, {16385, 24577}}
}

// find is the least number, and the number of extra bits, of the symbol with this index.
func (r ranges) find(index int) (int, int) {
	for extra, group := range r {
		if index < len(group) {
			return group[index], extra
		}
		index -= len(group)
	}
	return 0, 0
}

// lengthOf is what belongs to a literal from 257 to 285.
func lengthOf(literal int) (int, int) {
	if literal == 285 {
		return 258, 0
	}
	return lengthRanges().find(literal - 257)
}

// model is the chapter, word by word.
type model struct {
	digits string
	at     int
	out    []byte
	limit  int
}

func modelInflate(s string, limit int) (out string, n int, e api.Errno) {
	if limit < 0 || limit > 1073741824 {
		return "", 0, api.ErrArg
	}
	m := &model{digits: digitsOf(s), limit: limit}
	defer func() {
		if p := recover(); p != nil {
			out, n, e = "", 0, p.(api.Errno)
		}
	}()
	for {
		last := m.take(1)
		m.block(m.take(2))
		if last == 1 {
			return string(m.out), (m.at + 7) / 8, api.OK
		}
	}
}

func (m *model) take(n int) int {
	if n > len(m.digits)-m.at {
		panic(api.ErrCut)
	}
	m.at += n
	return value(m.digits[m.at-n : m.at])
}

func formIf(bad bool) {
	if bad {
		panic(api.ErrForm)
	}
}

func (m *model) block(kind int) {
	switch kind {
	case 0:
		for m.at%8 != 0 {
			m.at++
		}
		all := m.take(32)
		n := all & 0xffff
		formIf(n+all>>16 != 0xffff)
		data := text(m.digits[m.at:min(m.at+8*n, len(m.digits))])
		if len(data) < n {
			panic(api.ErrCut)
		}
		m.at += 8 * n
		m.out = append(m.out, data...)
		m.notTooLong()
	case 1:
		m.symbols(fixedLiteralCodes, fixedDistanceCodes)
	case 2:
		m.symbols(m.header())
	case 3:
		panic(api.ErrForm)
	}
}

func (m *model) notTooLong() {
	if len(m.out) > m.limit {
		panic(api.ErrLimit)
	}
}

// next is the symbol whose code comes next: how the digits go on decides.
func (m *model) next(codes []string) int {
	rest := m.digits[m.at:]
	begins := false
	for symbol, c := range codes {
		if c == "" {
			continue
		}
		if strings.HasPrefix(rest, c) {
			m.at += len(c)
			return symbol
		}
		begins = begins || strings.HasPrefix(c, rest)
	}
	formIf(!begins)
	panic(api.ErrCut)
}

func (m *model) header() ([]string, []string) {
	literals := m.take(5) + 257
	distances := m.take(5) + 1
	given := m.take(4) + 4
	formIf(literals > 286)
	formIf(distances > 30)
	first := make([]int, 19)
	for _, symbol := range []int{16, 17, 18, 0, 8, 7, 9, 6, 10, 5, 11, 4, 12, 3, 13, 2, 14, 1, 15}[:given] {
		first[symbol] = m.take(3)
	}
	formIf(huff.Check(first) != api.OK || slices.Max(first) == 0)
	codes := codesOf(first)
	var l []int
	for len(l) < literals+distances {
		switch n := m.next(codes); n {
		case 16:
			formIf(len(l) == 0)
			l = append(l, repeat(m.take(2)+3, l[len(l)-1])...)
		case 17:
			l = append(l, repeat(m.take(3)+3, 0)...)
		case 18:
			l = append(l, repeat(m.take(7)+11, 0)...)
		default:
			l = append(l, n)
		}
		formIf(len(l) > literals+distances)
	}
	formIf(l[256] == 0)
	formIf(huff.Check(l[:literals]) != api.OK)
	formIf(huff.Check(l[literals:]) != api.OK)
	return codesOf(l[:literals]), codesOf(l[literals:])
}

func (m *model) symbols(literals []string, distances []string) {
	for {
		n := m.next(literals)
		if n == 256 {
			return
		}
		if n < 256 {
			m.out = append(m.out, byte(n))
			m.notTooLong()
			continue
		}
		formIf(n > 285)
		length, extra := lengthOf(n)
		length += m.take(extra)
		n = m.next(distances)
		formIf(n > 29)
		distance, extra := distanceRanges().find(n)
		distance += m.take(extra)
		formIf(distance > len(m.out))
		for range length {
			m.out = append(m.out, m.out[len(m.out)-distance])
			m.notTooLong()
		}
	}
}
