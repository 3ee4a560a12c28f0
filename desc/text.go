package desc

import (
	"strings"

	"mortise/api"
)

const separators = " \t\n"

// text is what is left to be read. Its methods read what comes next, behind separators; they panic with ErrSyntax.
type text struct {
	rest string
}

// demand panics unless the text is as it must be.
func demand(ok bool) {
	if !ok {
		panic(api.ErrSyntax)
	}
}

func isLetterOrDigit(c byte) bool {
	return c >= 'A' && c <= 'Z' || c >= 'a' && c <= 'z' || c >= '0' && c <= '9' || c == '_'
}

func (t *text) skip() { t.rest = strings.TrimLeft(t.rest, separators) }

// ended tells whether nothing is left.
func (t *text) ended() bool {
	t.skip()
	return t.rest == ""
}

// next returns all letters and digits up to something else, which are not yet taken.
func (t *text) next() string {
	t.skip()
	n := 0
	for n < len(t.rest) && isLetterOrDigit(t.rest[n]) {
		n++
	}
	return t.rest[:n]
}

// word takes what next returns.
func (t *text) word() string {
	w := t.next()
	t.rest = t.rest[len(w):]
	return w
}

// has takes this word, if it comes next, and tells whether it does.
func (t *text) has(word string) bool {
	if t.next() != word {
		return false
	}
	t.word()
	return true
}

// sign takes this sign, if it comes next, and tells whether it does.
func (t *text) sign(s string) bool {
	t.skip()
	rest, ok := strings.CutPrefix(t.rest, s)
	t.rest = rest
	return ok
}

// upTo takes everything up to and including a sign, and returns what is before it.
func (t *text) upTo(sign string) string {
	inside, rest, ok := strings.Cut(t.rest, sign)
	demand(ok)
	t.rest = rest
	return inside
}
