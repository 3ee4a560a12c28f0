package deflate

import (
	"mortise/api"
	"mortise/huff"
)

// Literals: those below end are bytes, those above it lengths.
const (
	end          = 256
	longest      = 285 // the literal of the longest match
	maxLiterals  = 286
	maxDistances = 30
	minMatch     = 3
)

// The numbers of symbols that are one group, with the same number of extra bits.
const (
	lengthGroup   = 4
	distanceGroup = 2
)

// symbol is one of a code, and the extra bits that follow it.
type symbol struct {
	index int
	extra int    // how many extra bits
	more  uint32 // the number in them
}

// grouped returns the symbol of a number. The symbols of the first two groups stand for a number each; from then on, each group has one extra bit more than the one before.
func grouped(n int, group int) symbol {
	extra := 0
	for n>>extra >= 2*group {
		extra++
	}
	most := n >> extra
	return symbol{index: extra*group + most, extra: extra, more: uint32(n - most<<extra)}
}

// literal returns the symbol of a byte, or of the length of a match.
func literal(t api.Token) symbol {
	switch {
	case t.Dist == 0:
		return symbol{index: int(t.Lit)}
	case t.Len == api.MaxMatch:
		return symbol{index: longest} // the last group would reach as far
	}
	s := grouped(t.Len-minMatch, lengthGroup)
	s.index += end + 1
	return s
}

// distance returns the symbol of the distance of a match.
func distance(t api.Token) symbol { return grouped(t.Dist-1, distanceGroup) }

// code is how symbols are written: each with as many bits as its length says, the first one of which is the lowest.
type code struct {
	lengths []int
	bits    []uint32
}

func newCode(lengths []int) code {
	// The lengths are fixed, or huff's own, so they form a code.
	codes, _ := huff.Codes(lengths)
	c := code{lengths: lengths}
	for i, n := range lengths {
		c.bits = append(c.bits, reversed(codes[i], n))
	}
	return c
}

// reversed returns the n bits of a code in the order in which they are written: its highest one comes first.
func reversed(code int, n int) uint32 {
	var v uint32
	for range n {
		v = v<<1 | uint32(code&1)
		code >>= 1
	}
	return v
}

// codes are those of a block's symbols.
type codes struct {
	literals  code
	distances code
}

func fixedLength(literal int) int {
	switch {
	case literal < 144:
		return 8
	case literal < 256:
		return 9
	case literal < 280:
		return 7
	}
	return 8
}

func fixedCodes() codes {
	// These are more symbols than are ever written, as fewer would not form the fixed codes.
	literals := make([]int, 288)
	for i := range literals {
		literals[i] = fixedLength(i)
	}
	distances := make([]int, 32)
	for i := range distances {
		distances[i] = 5
	}
	return codes{newCode(literals), newCode(distances)}
}

// ownCodes returns the codes with which the symbols of tokens take the fewest bits.
func ownCodes(l []api.Token) codes {
	var literals [maxLiterals]int
	var distances [maxDistances]int
	for _, t := range l {
		literals[literal(t).index]++
		if t.Dist > 0 {
			distances[distance(t).index]++
		}
	}
	literals[end]++
	return codes{
		newCode(best(literals[:], api.MaxBits, minLiterals)),
		newCode(best(distances[:], api.MaxBits, minDistances)),
	}
}

// best returns the lengths of the best code for symbols that occur so often: those up to the last one that has a code, but no fewer than least.
func best(often []int, most int, least int) []int {
	// More than there are can't be asked of huff, so it returns no error.
	l, _ := huff.Lengths(often, most)
	for len(l) > least && l[len(l)-1] == 0 {
		l = l[:len(l)-1]
	}
	return l
}
