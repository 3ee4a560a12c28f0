package huff

import (
	"slices"
	"sort"

	"mortise/api"
)

const maxOften = 1 << 40

// node is symbols that get one more bit each, all or none of them; its weight is what these bits cost. A symbol by itself is a leaf.
type node struct {
	weight  int
	symbols []int
}

// leaves returns a leaf for each symbol that is to have a code; false if a frequency is not one.
func leaves(often []int) ([]node, bool) {
	var l []node
	for symbol, n := range often {
		if n < 0 || n > maxOften {
			return nil, false
		}
		if n > 0 {
			l = append(l, node{weight: n, symbols: []int{symbol}})
		}
	}
	return l, true
}

// pairs joins each two nodes that follow one another; one that is left over is dropped.
func pairs(l []node) []node {
	var joined []node
	for i := 1; i < len(l); i += 2 {
		joined = append(joined, node{
			weight:  l[i-1].weight + l[i].weight,
			symbols: slices.Concat(l[i-1].symbols, l[i].symbols),
		})
	}
	return joined
}

// ascending sorts nodes by their weights. It keeps the order of equal ones, so that which lengths are found doesn't hang on how the sort goes.
func ascending(l []node) []node {
	sort.SliceStable(l, func(i, j int) bool { return l[i].weight < l[j].weight })
	return l
}

// lightest returns the nodes whose bits, taken together, are those of an optimal code; the method is called package-merge. Let a symbol's bit at depth n be worth 2^-n, and weigh as much as the symbol is frequent. Then the bits of a code of n symbols are worth n - 1, and the lightest ones worth that much are an optimal code's. From the greatest depth on, bits are joined in pairs, and each pair is weighed against the bits of the depth above, as it is worth as much as one of them.
func lightest(symbols []node, most int) []node {
	level := ascending(slices.Clone(symbols))
	for range most - 1 {
		level = ascending(slices.Concat(symbols, pairs(level)))
	}
	if len(symbols) < 2 {
		return level // a single symbol has one bit, though it needs none
	}
	return level[:2*len(symbols)-2]
}

// Lengths returns lengths of a code, none greater than most, whose symbols take the fewest bits if they occur as often as given.
func Lengths(often []int, most int) ([]int, api.Errno) {
	if most < 1 || most > api.MaxBits || len(often) > api.MaxCodes {
		return nil, api.ErrArg
	}
	symbols, ok := leaves(often)
	if !ok || len(symbols) > 1<<most {
		return nil, api.ErrArg
	}
	lengths := make([]int, len(often))
	for _, n := range lightest(symbols, most) {
		for _, symbol := range n.symbols {
			lengths[symbol]++
		}
	}
	return lengths, api.OK
}
