package huff

import (
	"math"
	"math/rand"
	"slices"
	"testing"

	"mortise/api"
)

const often40 = 1 << 40 // the greatest frequency

// cost is how many bits the symbols take.
func cost(often []int, lengths []int) int {
	sum := 0
	for i, n := range lengths {
		sum += often[i] * n
	}
	return sum
}

// tried is the least cost, found by trying all lengths; -1 if there are none.
func tried(often []int, most int) int {
	least := -1
	lengths := make([]int, len(often))
	var try func(i int)
	try = func(i int) {
		if i == len(often) {
			if modelCheck(lengths) == api.OK && (least < 0 || cost(often, lengths) < least) {
				least = cost(often, lengths)
			}
			return
		}
		if often[i] == 0 {
			lengths[i] = 0
			try(i + 1)
			return
		}
		for n := 1; n <= most; n++ {
			lengths[i] = n
			try(i + 1)
		}
	}
	try(0)
	return least
}

// grown is the least cost, found by growing trees from the root on: of the nodes of one depth, some become leaves (the most frequent symbols that are left), the others have two nodes each below them, and every symbol that is left takes one bit more. Among all trees with as many leaves and nodes at one depth, only the cheapest goes on.
func grown(often []int, most int) int {
	var l []int
	for _, n := range often {
		if n > 0 {
			l = append(l, n)
		}
	}
	if len(l) < 2 {
		return cost(l, repeat(len(l), 1))
	}
	slices.Sort(l)
	slices.Reverse(l)
	rest := make([]int, len(l)+1) // the frequencies from the symbol on
	for i := len(l) - 1; i >= 0; i-- {
		rest[i] = rest[i+1] + l[i]
	}
	type state struct{ leaves, nodes int }
	least := -1
	at := map[state]int{{0, 1}: 0}
	for range most + 1 {
		next := map[state]int{}
		for s, sum := range at {
			for k := 0; k <= s.nodes && s.leaves+k <= len(l); k++ {
				n := state{s.leaves + k, 2 * (s.nodes - k)}
				if n == (state{len(l), 0}) && (least < 0 || sum < least) {
					least = sum
				}
				if n.nodes == 0 || n.leaves+n.nodes > len(l) {
					continue
				}
				if old, ok := next[n]; !ok || sum+rest[n.leaves] < old {
					next[n] = sum + rest[n.leaves]
				}
			}
		}
		at = next
	}
	return least
}

// optimal holds Lengths against what it promises, where the least cost is known.
func optimal(t *testing.T, often []int, most int, want int) {
	t.Helper()
	given := slices.Clone(often)
	l, e := Lengths(often, most)
	if want < 0 {
		if e != api.ErrArg || len(l) != 0 {
			t.Fatalf("%v, at most %d: %v, %d", given, most, l, e)
		}
		return
	}
	if e != api.OK || len(l) != len(often) || modelCheck(l) != api.OK || cost(often, l) != want {
		t.Fatalf("%v, at most %d: %v, %d, cost %d, not %d", given, most, l, e, cost(often[:len(l)], l), want)
	}
	for i, n := range l {
		if n > most || (n == 0) != (often[i] == 0) {
			t.Fatalf("%v, at most %d: %v", given, most, l)
		}
	}
	if !slices.Equal(often, given) {
		t.Fatalf("%v was changed to %v", given, often)
	}
	if k, e := Lengths(often, most); !slices.Equal(k, l) || e != api.OK {
		t.Fatalf("%v, at most %d: %v, asked again: %v, %d", given, most, l, k, e)
	}
}

// TestP6_3AllSmall: both ways of the test to find the least cost, and Lengths, agree.
func TestP6_3AllSmall(t *testing.T) {
	for _, often := range lists(5, 3) {
		if slices.Contains(often, -1) {
			optimal(t, often, 4, -1)
			continue
		}
		for most := 1; most <= 4; most++ {
			want := tried(often, most)
			if g := grown(often, most); g != want {
				t.Fatalf("%v, at most %d: grown %d, tried %d", often, most, g, want)
			}
			optimal(t, often, most, want)
		}
	}
}

func TestP6_3Tried(t *testing.T) {
	for _, often := range [][]int{{1, 1, 2, 3, 5, 8}, {8, 5, 3, 2, 1, 1}, {1, 2, 4, 8, 16, 32}, {7, 0, 7, 6, 0, 6, 1}, {often40, 1, often40, 1, 1, 1}, {1, 100, 1, 100, 1, 100}} {
		for most := 1; most <= 6; most++ {
			optimal(t, often, most, tried(often, most))
		}
	}
}

// fibonacci are frequencies whose code is as deep as can be.
func fibonacci(n int) []int {
	l := []int{1, 1}
	for len(l) < n {
		l = append(l, l[len(l)-1]+l[len(l)-2])
	}
	return l
}

func TestP6_3Grown(t *testing.T) {
	random := rand.New(rand.NewSource(6))
	for range 300 {
		often := make([]int, random.Intn(40))
		for i := range often {
			often[i] = random.Intn(1 << random.Intn(41))
		}
		for _, most := range []int{1, 2, 3, 4, 5, 6, 7, 10, 15} {
			optimal(t, often, most, grown(often, most))
		}
	}
	for _, n := range []int{2, 3, 14, 15, 16, 17, 18, 30, 58} {
		for most := 1; most <= 15; most++ {
			often := fibonacci(n)
			optimal(t, often, most, grown(often, most))
			slices.Reverse(often)
			optimal(t, often, most, grown(often, most))
		}
	}
}

// TestP6_3Full: lists as long as they may be, with the greatest frequencies.
func TestP6_3Full(t *testing.T) {
	most := often40
	for _, n := range []int{9, 10, 14, 15} {
		optimal(t, repeat(320, most), n, (192*8+128*9)*most)
		optimal(t, repeat(320, 1), n, 192*8+128*9)
		optimal(t, append(repeat(319, 0), most), n, most)
		optimal(t, append(append([]int{1}, repeat(318, 0)...), most), n, most+1)
		optimal(t, repeat(320, 0), n, 0)
	}
	random := rand.New(rand.NewSource(7))
	often := make([]int, 320)
	for i := range often {
		often[i] = 1 << random.Intn(41)
	}
	for _, n := range []int{9, 10, 12, 15} {
		optimal(t, often, n, grown(often, n))
	}
}

// TestP6_3AsManyAsFit: 2^most symbols have a code, all of whose lengths are most; one more is too many.
func TestP6_3AsManyAsFit(t *testing.T) {
	for most := 1; most <= 8; most++ {
		often := make([]int, 1<<most)
		sum := 0
		for i := range often {
			often[i] = 1 + i*i*i
			sum += often[i]
		}
		optimal(t, often, most, sum*most)
		optimal(t, append(slices.Clone(often), 0), most, sum*most)
		optimal(t, append(slices.Clone(often), 1), most, -1)
	}
}

func TestP6_3WrongArguments(t *testing.T) {
	for i, c := range []struct {
		often []int
		most  int
		e     api.Errno
	}{
		{nil, 1, api.OK},
		{nil, 15, api.OK},
		{nil, 0, api.ErrArg},
		{nil, 16, api.ErrArg},
		{nil, -1, api.ErrArg},
		{nil, math.MinInt, api.ErrArg},
		{nil, math.MaxInt, api.ErrArg},
		{nil, 64, api.ErrArg},
		{[]int{1, 2}, 0, api.ErrArg},
		{[]int{1, 2}, 16, api.ErrArg},
		{[]int{1, 2}, 1, api.OK},
		{[]int{1, 2, 3}, 1, api.ErrArg},
		{[]int{1, 0, 3}, 1, api.OK},
		{repeat(320, 0), 1, api.OK},
		{repeat(321, 0), 1, api.ErrArg},
		{repeat(321, 0), 15, api.ErrArg},
		{repeat(321, 1), 15, api.ErrArg},
		{repeat(320, 1), 8, api.ErrArg},
		{repeat(320, 1), 9, api.OK},
		{[]int{1, -1}, 15, api.ErrArg},
		{[]int{math.MinInt}, 15, api.ErrArg},
		{[]int{often40}, 15, api.OK},
		{[]int{often40 + 1}, 15, api.ErrArg},
		{[]int{1, 1, math.MaxInt}, 15, api.ErrArg},
	} {
		if l, e := Lengths(c.often, c.most); e != c.e || e == api.OK && len(l) != len(c.often) || e != api.OK && len(l) != 0 {
			t.Errorf("case %d: %v, %d, not %d", i, l, e, c.e)
		}
	}
}

// TestR5LengthsApart: a list that was handed out is no other answer's.
func TestR5LengthsApart(t *testing.T) {
	often := []int{1, 1, 2, 4}
	l, _ := Lengths(often, 15)
	want := slices.Clone(l)
	for i := range l[:cap(l)] {
		l[:cap(l)][i] = -9
	}
	if k, e := Lengths(often, 15); !slices.Equal(k, want) || e != api.OK || !slices.Equal(often, []int{1, 1, 2, 4}) {
		t.Errorf("%v, %d", k, e)
	}
}
