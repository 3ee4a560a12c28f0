package deflate

import "slices"

// The fewest that the header of a block with codes of its own can give.
const (
	minLiterals  = 257
	minDistances = 1
	minGiven     = 4
)

// Symbols of the code of lengths; those below stand for a length each.
const (
	again       = 16
	fewNoughts  = 17
	manyNoughts = 18
	allLengths  = 19
)

const maxFirst = 7 // the longest code of a symbol of the code of lengths, as its length has three bits

// order is that in which the lengths of the code of lengths are given.
var order = [allLengths]int{16, 17, 18, 0, 8, 7, 9, 6, 10, 5, 11, 4, 12, 3, 13, 2, 14, 1, 15}

// part returns the symbol of the code of lengths that stands for the lengths from at on, and for how many of them.
func part(l []int, at int) (symbol, int) {
	run := 1
	for at+run < len(l) && l[at+run] == l[at] {
		run++
	}
	switch {
	case l[at] == 0 && run >= 11:
		n := min(run, 138)
		return symbol{manyNoughts, 7, uint32(n - 11)}, n
	case l[at] == 0 && run >= 3:
		return symbol{fewNoughts, 3, uint32(run - 3)}, run
	case at > 0 && l[at] == l[at-1] && run >= 3:
		n := min(run, 6)
		return symbol{again, 2, uint32(n - 3)}, n
	}
	return symbol{index: l[at]}, 1
}

// parts returns symbols of the code of lengths that stand for all of these lengths.
func parts(l []int) []symbol {
	var all []symbol
	for at := 0; at < len(l); {
		p, n := part(l, at)
		all = append(all, p)
		at += n
	}
	return all
}

// firstCode returns the code of lengths with which parts take the fewest bits.
func firstCode(all []symbol) code {
	var often [allLengths]int
	for _, p := range all {
		often[p.index]++
	}
	return newCode(best(often[:], maxFirst, allLengths))
}

// header writes the codes of a block.
func (w *writer) header(c codes) {
	// The literals' lengths and the distances' are one sequence, so that a repetition may go across.
	all := parts(slices.Concat(c.literals.lengths, c.distances.lengths))
	first := firstCode(all)
	given := allLengths
	for given > minGiven && first.lengths[order[given-1]] == 0 {
		given--
	}
	w.Put(uint32(len(c.literals.lengths)-minLiterals), 5)
	w.Put(uint32(len(c.distances.lengths)-minDistances), 5)
	w.Put(uint32(given-minGiven), 4)
	for i := range given {
		w.Put(uint32(first.lengths[order[i]]), 3)
	}
	for _, p := range all {
		w.symbol(first, p)
	}
}
