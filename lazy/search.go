package lazy

import (
	"strings"

	"mortise/api"
	"mortise/win"
)

// search is one search for a part. Its methods panic with the error that ends it.
type search struct {
	*Reader
	fuel  int    // as much as parsing everything may take, which no search for a part exceeds
	taken int    // how many bytes it has read for nodes
	whole string // all bytes, once they were read
}

func (s *search) spend() {
	demand(s.fuel > 0, api.ErrFuel)
	s.fuel--
}

// behind returns the offset n bytes after another one.
func (s *search) behind(at int, n uint64) int {
	demand(n <= uint64(s.source.Len()-at), api.ErrCut)
	return at + int(n)
}

// align returns the next multiple of n.
func (s *search) align(at int, n int) int {
	end, ok := win.Align(at, n)
	demand(ok && end <= s.source.Len(), api.ErrCut)
	return end
}

// number returns the number that is stored at a place.
func (s *search) number(p place) uint64 {
	if n, ok := s.kept.get(p); ok {
		return n
	}
	n, e := win.Of(s.read(p.at, p.width)).Uint(0, p.width, p.big)
	demand(e == api.OK, e)
	s.kept.put(p, n)
	return n
}

// text returns bytes for a node.
func (s *search) text(lo int, hi int) string {
	s.taken += hi - lo
	// Shared bytes may be part of so many nodes that together they are far more than there are. Then all nodes get parts of one string.
	if s.whole == "" && s.taken-api.MaxRead > s.source.Len() {
		s.whole = s.read(0, s.source.Len())
	}
	if s.whole != "" {
		return s.whole[lo:hi]
	}
	return s.read(lo, hi-lo)
}

// read returns n bytes from at on, or panics with the error of a read.
func (r *Reader) read(at int, n int) string {
	var b strings.Builder
	b.Grow(n)
	for b.Len() < n {
		part, e := r.source.Full(at+b.Len(), min(n-b.Len(), api.MaxRead))
		demand(e == api.OK, e)
		b.WriteString(part)
	}
	return b.String()
}
