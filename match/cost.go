package match

import (
	"math/bits"

	"mortise/api"
)

// What the fixed codes take, without extra bits.
const (
	endCost      = 7
	distanceCost = 5
)

// byteCost is how many bits the literal of a byte takes.
func byteCost(b byte) int {
	if b < 144 {
		return 8
	}
	return 9
}

// lengthCost is how many bits the literal of a length takes, and its extra bits.
func lengthCost(n int) int {
	cost := 7
	if n >= 115 { // the literals from 280 on
		cost = 8
	}
	// The longest match has a literal of its own; each of the first eight lengths has one too, and then in each group of four literals twice as many lengths share one as in the group before.
	if n < api.MaxMatch {
		cost += max(bits.Len(uint(n-minMatch))-3, 0)
	}
	return cost
}

// extraOfDistance is how many extra bits a distance takes: as the lengths do, but in groups of two.
func extraOfDistance(n int) int { return max(bits.Len(uint(n-1))-2, 0) }

// Cost returns how many bits tokens take with the fixed codes, including the end.
func Cost(l []api.Token) (int, api.Errno) {
	cost := endCost
	for _, t := range l {
		switch {
		case isByte(t):
			cost += byteCost(t.Lit)
		case isMatch(t):
			cost += lengthCost(t.Len) + distanceCost + extraOfDistance(t.Dist)
		default:
			return 0, api.ErrArg
		}
	}
	return cost, api.OK
}
