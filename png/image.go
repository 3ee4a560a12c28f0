package png

import (
	"strings"

	"mortise/api"
	"mortise/win"
	"mortise/zlib"
)

const (
	maxSide  = 4096
	maxBytes = 1 << 24
)

// The types of chunks that an image has beside its end.
const (
	header  = "IHDR"
	palette = "PLTE"
	data    = "IDAT"
)

// sizeWidth is that of both sides in an IHDR, and endWidth that of what is behind them.
const (
	sizeWidth = 2 * numberWidth
	endWidth  = 5
)

// kind is one of pixels: how an IHDR ends that has them, and how many samples each of them has.
type kind struct {
	end     string
	samples int
}

// kinds have eight bits for each sample, then their number, and then 0 three times, as there is one way only to compress, filter and order the rows.
var kinds = [3]kind{
	{"\x08\x00\x00\x00\x00", 1},
	{"\x08\x02\x00\x00\x00", 3},
	{"\x08\x06\x00\x00\x00", 4},
}

// samplesOf returns the samples of pixels by how an IHDR ends; 0 if it may not end so.
func samplesOf(end string) int {
	for _, k := range kinds {
		if k.end == end {
			return k.samples
		}
	}
	return 0
}

// endOf returns how an IHDR ends, by the samples of pixels; nothing if none have so many.
func endOf(samples int) string {
	for _, k := range kinds {
		if k.samples == samples {
			return k.end
		}
	}
	return ""
}

// fits tells whether an image with these sides, which are positive, is not too large.
func fits(w int, h int, samples int) bool {
	// The sides come first, so that the product can't wrap around.
	return w <= maxSide && h <= maxSide && w*h*samples <= maxBytes
}

func isValid(m api.Image) bool {
	return m.W > 0 && m.H > 0 && endOf(m.Samples) != "" && fits(m.W, m.H, m.Samples) && len(m.Pixels) == m.W*m.H*m.Samples
}

// readHeader returns an image without its pixels.
func readHeader(c api.Chunk) (api.Image, api.Errno) {
	if c.Type != header || len(c.Data) != sizeWidth+endWidth {
		return api.Image{}, api.ErrForm
	}
	text := win.Of(c.Data)
	w, _ := text.Uint(0, numberWidth, true)
	h, _ := text.Uint(numberWidth, numberWidth, true)
	m := api.Image{W: int(w), H: int(h), Samples: samplesOf(c.Data[sizeWidth:])}
	if m.W == 0 || m.H == 0 || m.Samples == 0 {
		return api.Image{}, api.ErrForm
	}
	if !fits(m.W, m.H, m.Samples) {
		return api.Image{}, api.ErrLimit
	}
	return m, api.OK
}

// mayFollow tells whether a chunk may stand behind the header: all whose types begin with a small letter may.
func mayFollow(c api.Chunk) bool {
	switch c.Type {
	case palette, data:
		return true
	case ending:
		return c.Data == ""
	}
	return c.Type[0] >= 'a'
}

// packed returns the Data of all IDATs; false if the chunks behind the header may not stand so.
func packed(l []api.Chunk) (string, bool) {
	var b strings.Builder
	found := 0
	for i, c := range l {
		if !mayFollow(c) {
			return "", false
		}
		if c.Type != data {
			continue
		}
		if found > 0 && l[i-1].Type != data {
			return "", false
		}
		found++
		b.WriteString(c.Data)
	}
	return b.String(), found > 0
}

// unpack returns the rows, which are n bytes.
func unpack(s string, n int) (string, api.Errno) {
	rows, took, e := zlib.Unzip(s, n)
	if e != api.OK {
		return "", e
	}
	if took != len(s) || len(rows) < n {
		return "", api.ErrForm
	}
	return rows, api.OK
}

// Decode returns the image of a file.
func Decode(s string) (api.Image, api.Errno) {
	l, e := Split(s)
	if e != api.OK {
		return api.Image{}, e
	}
	m, e := readHeader(l[0])
	if e != api.OK {
		return api.Image{}, e
	}
	z, ok := packed(l[1:])
	if !ok {
		return api.Image{}, api.ErrForm
	}
	rows, e := unpack(z, m.H*rowWidth(m))
	if e != api.OK {
		return api.Image{}, e
	}
	if m.Pixels, ok = restore(m, rows); !ok {
		return api.Image{}, api.ErrForm
	}
	return m, api.OK
}

// Encode returns the file of an image.
func Encode(m api.Image) (string, api.Errno) {
	if !isValid(m) {
		return "", api.ErrArg
	}
	return Join([]api.Chunk{
		{Type: header, Data: number(uint32(m.W)) + number(uint32(m.H)) + endOf(m.Samples)},
		{Type: data, Data: zlib.Zip(plainRows(m))},
		{Type: ending},
	})
}
