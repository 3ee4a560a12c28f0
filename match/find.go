package match

import "mortise/api"

// key is three bytes, the fewest that a match has.
type key [minMatch]byte

// places are the last positions where three bytes occurred, the latest one first. Each is one more than the offset, so that 0 is none.
type places [8]int

// finder is a string, and where the three bytes of each position that a match may reach occurred.
type finder struct {
	text string
	seen map[key]places
}

func (f *finder) keyAt(at int) key {
	return key{f.text[at], f.text[at+1], f.text[at+2]}
}

// common is how many bytes from two offsets on are the same, as far as a match reaches.
func (f *finder) common(early int, late int) int {
	most := min(len(f.text)-late, api.MaxMatch)
	n := 0
	for n < most && f.text[early+n] == f.text[late+n] {
		n++
	}
	return n
}

// token returns the longest match at an offset, the nearest one of several; or the byte if there is no match.
func (f *finder) token(at int) api.Token {
	best := api.Token{Lit: f.text[at]}
	if len(f.text)-at < minMatch {
		return best
	}
	for _, place := range f.seen[f.keyAt(at)] {
		distance := at + 1 - place
		if place == 0 || distance > api.MaxWindow {
			break // those that follow are no nearer
		}
		if n := f.common(place-1, at); n > best.Len {
			best = api.Token{Len: n, Dist: distance}
		}
	}
	return best
}

// keep notes where the three bytes at an offset occurred.
func (f *finder) keep(at int) {
	if len(f.text)-at < minMatch {
		return
	}
	k := f.keyAt(at)
	p := f.seen[k]
	copy(p[1:], p[:])
	p[0] = at + 1
	f.seen[k] = p
	if at >= api.MaxWindow {
		f.forget(at - api.MaxWindow)
	}
}

// forget drops three bytes that occurred last at an offset that no match reaches any more, so that what is kept does not grow with the string.
func (f *finder) forget(at int) {
	if k := f.keyAt(at); f.seen[k][0] == at+1 {
		delete(f.seen, k)
	}
}

// Find returns tokens that stand for a string: at each place the longest match that it finds.
func Find(s string) []api.Token {
	f := &finder{text: s, seen: map[key]places{}}
	var l []api.Token
	for at := 0; at < len(s); {
		t := f.token(at)
		l = append(l, t)
		for range max(t.Len, 1) {
			f.keep(at)
			at++
		}
	}
	return l
}
