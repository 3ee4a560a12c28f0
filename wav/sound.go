package wav

import (
	"iter"
	"slices"
	"strings"

	"mortise/api"
	"mortise/win"
)

const (
	formSound  = "WAVE"
	typeFormat = "fmt "
	typeFrames = "data"
)

const (
	pcm         = 1 // the first number of a fmt: samples as they are
	maxChannels = 16
	maxRate     = 1 << 24
)

// Places of the numbers of a fmt that say something of their own; the others follow from them.
const (
	placeChannels = 1
	placeRate     = 2
	placeBits     = 5
	allNumbers    = 6
)

// widths are those of the numbers of a fmt.
var widths = [allNumbers]int{2, 2, 4, 4, 2, 2}

// numbers yields the numbers of a fmt with their places, as far as there are bytes for them.
func numbers(s string) iter.Seq2[int, int] {
	return func(yield func(place int, n int) bool) {
		w, at := win.Of(s), 0
		for place, width := range widths {
			n, e := w.Uint(at, width, false)
			if e != api.OK || !yield(place, int(n)) {
				return
			}
			at += width
		}
	}
}

// frameWidth is how many bytes a sound has for all channels at a time.
func frameWidth(m api.Sound) int { return m.Channels * m.Bits / 8 }

// formatOf returns the fmt of a valid sound.
func formatOf(m api.Sound) string {
	a := frameWidth(m)
	var b strings.Builder
	for place, n := range [allNumbers]int{pcm, m.Channels, m.Rate, m.Rate * a, a, m.Bits} {
		b.WriteString(number(n, widths[place]))
	}
	return b.String()
}

// readFormat returns what a fmt says of a sound, be it valid or not.
func readFormat(s string) api.Sound {
	var m api.Sound
	for place, n := range numbers(s) {
		switch place {
		case placeChannels:
			m.Channels = n
		case placeRate:
			m.Rate = n
		case placeBits:
			m.Bits = n
		}
	}
	return m
}

func isBits(n int) bool { return n == 8 || n == 16 || n == 24 || n == 32 }

func isMore(c api.Chunk) bool {
	return isType(c.Type) && c.Type != typeFormat && c.Type != typeFrames
}

// isValid tells whether a sound is, but for the length of its file.
func isValid(m api.Sound) bool {
	return m.Channels >= 1 && m.Channels <= maxChannels && m.Rate >= 1 && m.Rate <= maxRate && isBits(m.Bits) &&
		len(m.Frames)%frameWidth(m) == 0 && !slices.ContainsFunc(m.More, func(c api.Chunk) bool { return !isMore(c) })
}

// soundOf returns the sound that some chunks hold; false if there is none.
func soundOf(l []api.Chunk) (api.Sound, bool) {
	var format, frames string
	var more []api.Chunk
	count := map[string]int{}
	for _, c := range l {
		if isMore(c) {
			more = append(more, c)
			continue
		}
		count[c.Type]++
		switch {
		case c.Type == typeFormat:
			format = c.Data
		case count[typeFormat] == 0:
			return api.Sound{}, false
		default:
			frames = c.Data
		}
	}
	m := readFormat(format)
	m.Frames, m.More = frames, more
	return m, count[typeFormat] == 1 && count[typeFrames] == 1 && isValid(m) && formatOf(m) == format
}

// Read returns the sound of a file.
func Read(s string) (api.Sound, api.Errno) {
	form, l, e := Split(s)
	if e != api.OK {
		return api.Sound{}, e
	}
	m, ok := soundOf(l)
	if form != formSound || !ok {
		return api.Sound{}, api.ErrForm
	}
	return m, api.OK
}

// Write returns the file of a sound.
func Write(m api.Sound) (string, api.Errno) {
	if !isValid(m) {
		return "", api.ErrArg
	}
	l := []api.Chunk{{Type: typeFormat, Data: formatOf(m)}, {Type: typeFrames, Data: m.Frames}}
	// A file that would be too long is refused by Join.
	return Join(formSound, append(l, m.More...))
}
