package png

import (
	"strings"

	"mortise/api"
)

// The filters: what is added to each byte of a row.
const (
	filterNone    = 0
	filterBefore  = 1
	filterAbove   = 2
	filterMean    = 3
	filterNearest = 4
)

// rowWidth is how many bytes a stored row of an image has.
func rowWidth(m api.Image) int { return 1 + m.W*m.Samples }

func distance(a int, b int) int { return max(a-b, b-a) }

// nearest returns that of a, b and c which is nearest to a + b - c, the first one of several.
func nearest(a int, b int, c int) int {
	guess, best := a+b-c, a
	for _, n := range [2]int{b, c} {
		if distance(n, guess) < distance(best, guess) {
			best = n
		}
	}
	return best
}

// added returns what a filter adds to a byte, where a is before it, b above it, and c before b.
func added(filter byte, a int, b int, c int) int {
	switch filter {
	case filterBefore:
		return a
	case filterAbove:
		return b
	case filterMean:
		return (a + b) / 2
	case filterNearest:
		return nearest(a, b, c)
	}
	return 0
}

// restore returns the pixels of an image, whose rows are stored as these bytes; false if there is no such filter.
func restore(m api.Image, rows string) (string, bool) {
	width := m.W * m.Samples
	pixels := make([]byte, 0, width*m.H)
	// byteAt returns a byte of the image, which must be restored already; 0 where there is none.
	byteAt := func(y int, x int) int {
		if y < 0 || x < 0 {
			return 0
		}
		return int(pixels[y*width+x])
	}
	for y := range m.H {
		row := rows[y*rowWidth(m):][:rowWidth(m)]
		filter := row[0]
		if filter > filterNearest {
			return "", false
		}
		for x := range width {
			before := x - m.Samples
			n := added(filter, byteAt(y, before), byteAt(y-1, x), byteAt(y-1, before))
			pixels = append(pixels, row[1+x]+byte(n))
		}
	}
	return string(pixels), true
}

// plainRows returns the rows of an image, to which nothing is to be added.
func plainRows(m api.Image) string {
	var b strings.Builder
	width := m.W * m.Samples
	for y := range m.H {
		b.WriteByte(filterNone)
		b.WriteString(m.Pixels[y*width:][:width])
	}
	return b.String()
}
