// Package win is layer 1, windows: it computes offsets without wrapping around, encodes integers as bytes, and reads strings through windows, outside of which nothing is read.
package win

import "mortise/api"

const (
	maxOffset = 1 << 62
	maxAlign  = 1 << 20 // greater than api.MaxAlign, which bounds descriptions
)

func isOffset(n int) bool { return n >= 0 && n <= maxOffset }

func isWidth(n int) bool { return n == 1 || n == 2 || n == 4 || n == 8 }

// Add returns the sum of two offsets; false if there is none.
func Add(a int, b int) (int, bool) {
	// The sum itself might wrap around, so what is left above a is asked instead.
	if !isOffset(a) || !isOffset(b) || b > maxOffset-a {
		return 0, false
	}
	return a + b, true
}

// Mul returns the product of two offsets; false if there is none.
func Mul(a int, b int) (int, bool) {
	// The product itself might wrap around, so the greatest factor is asked instead.
	if !isOffset(a) || !isOffset(b) || a > 0 && b > maxOffset/a {
		return 0, false
	}
	return a * b, true
}

// Align returns the least multiple of a that is not less than n; false if there is none.
func Align(n int, a int) (int, bool) {
	if !isOffset(n) || a < 1 || a > maxAlign {
		return 0, false
	}
	past := n % a
	if past == 0 {
		return n, true
	}
	return Add(n, a-past)
}

// order returns how far each byte of a number is shifted, by its index, so that reading and writing share one notion of both byte orders.
func order(width int, big bool) func(i int) int {
	if big {
		return func(i int) int { return 8 * (width - 1 - i) }
	}
	return func(i int) int { return 8 * i }
}

// Bytes returns a number's bytes, the highest one first if big is true.
func Bytes(n uint64, width int, big bool) (string, api.Errno) {
	if !isWidth(width) {
		return "", api.ErrArg
	}
	// A shift by all 64 bits leaves 0, so every number fits into 8 bytes.
	if n>>(8*width) != 0 {
		return "", api.ErrField
	}
	shift := order(width, big)
	b := make([]byte, width)
	for i := range b {
		b[i] = byte(n >> shift(i))
	}
	return string(b), api.OK
}

// Window is some consecutive bytes of a whole string. It keeps only its own bytes, so that nothing outside can be reached through it.
type Window struct {
	base int
	text string
}

// Of returns the window of all bytes of s.
func Of(s string) Window { return Window{text: s} }

// Sub returns the window of the n bytes from at on.
func (w Window) Sub(at int, n int) (Window, api.Errno) {
	if at < 0 || n < 0 {
		return Window{}, api.ErrArg
	}
	// at+n might wrap around, so what is left behind at is asked instead.
	if at > len(w.text) || n > len(w.text)-at {
		return Window{}, api.ErrCut
	}
	return Window{base: w.base + at, text: w.text[at : at+n]}, api.OK
}

// Base returns the offset in the whole string at which the window begins.
func (w Window) Base() int { return w.base }

// Len returns the number of the window's bytes.
func (w Window) Len() int { return len(w.text) }

// Text returns the window's bytes.
func (w Window) Text() string { return w.text }

// Uint returns the number whose Bytes are the width bytes from at on.
func (w Window) Uint(at int, width int, big bool) (uint64, api.Errno) {
	if !isWidth(width) {
		return 0, api.ErrArg
	}
	return number(w.Sub, at, width, order(width, big))
}

// number is given only the way to a part, not the window, so that it reads the bytes of the number and no others.
func number(part func(at int, n int) (Window, api.Errno), at int, width int, shift func(i int) int) (uint64, api.Errno) {
	p, e := part(at, width)
	if e != api.OK {
		return 0, e
	}
	var n uint64
	for i := range p.Len() {
		n |= uint64(p.text[i]) << shift(i)
	}
	return n, api.OK
}
