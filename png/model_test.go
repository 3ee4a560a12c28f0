package png

import (
	"encoding/binary"
	"hash/crc32"
	"math/rand"
	"slices"
	"strings"
	"testing"

	"mortise/api"
	"mortise/zlib"
)

func be(n uint32) string { return string(binary.BigEndian.AppendUint32(nil, n)) }

func sumOf(s string) string { return be(crc32.ChecksumIEEE([]byte(s))) }

// raw is a chunk as it is stored, with a correct checksum, whatever it holds.
func raw(kind string, data string) string {
	return be(uint32(len(data))) + kind + data + sumOf(kind+data)
}

const mark = "\x89\x50\x4e\x47\x0d\x0a\x1a\x0a"

// raws is a file of chunks, whatever they are.
func raws(l []api.Chunk) string {
	s := mark
	for _, c := range l {
		s += raw(c.Type, c.Data)
	}
	return s
}

const letters = "ABCDEFGHIJKLMNOPQRSTUVWXYZabcdefghijklmnopqrstuvwxyz"

func goodType(s string) bool { return len(s) == 4 && strings.Trim(s, letters) == "" }

// modelSplit is Split as the chapter tells it.
func modelSplit(s string) ([]api.Chunk, api.Errno) {
	if len(s) < 8 {
		return nil, api.ErrCut
	}
	if s[:8] != mark {
		return nil, api.ErrForm
	}
	s = s[8:]
	for l := []api.Chunk{}; ; {
		if len(s) < 8 {
			return nil, api.ErrCut
		}
		n := int64(binary.BigEndian.Uint32([]byte(s)))
		if n > 2147483647 || !goodType(s[4:8]) {
			return nil, api.ErrForm
		}
		if int64(len(s)) < 8+n+4 {
			return nil, api.ErrCut
		}
		if s[8+n:12+n] != sumOf(s[4:8+n]) {
			return nil, api.ErrSum
		}
		l = append(l, api.Chunk{Type: s[4:8], Data: s[8 : 8+n]})
		s = s[12+n:]
		if l[len(l)-1].Type == "IEND" {
			if s != "" {
				return nil, api.ErrForm
			}
			return l, api.OK
		}
	}
}

// modelHeader is what an IHDR tells.
func modelHeader(c api.Chunk) (w int, h int, samples int, e api.Errno) {
	if c.Type != "IHDR" || len(c.Data) != 13 {
		return 0, 0, 0, api.ErrForm
	}
	w, h = int(binary.BigEndian.Uint32([]byte(c.Data))), int(binary.BigEndian.Uint32([]byte(c.Data[4:])))
	samples, ok := map[byte]int{0: 1, 2: 3, 6: 4}[c.Data[9]]
	if !ok || c.Data[8] != 8 || c.Data[10:] != "\x00\x00\x00" || w == 0 || h == 0 {
		return 0, 0, 0, api.ErrForm
	}
	if w > 4096 || h > 4096 || w*h*samples > 16777216 {
		return 0, 0, 0, api.ErrLimit
	}
	return w, h, samples, api.OK
}

// modelOrder is the Data of the IDATs; false if the chunks behind the first one are not as they must be.
func modelOrder(l []api.Chunk) (string, bool) {
	order, packed := "", ""
	for _, c := range l {
		switch {
		case c.Type == "IHDR" || c.Type == "IEND" && c.Data != "":
			return "", false
		case c.Type == "IDAT":
			order += "D"
			packed += c.Data
		case c.Type == "PLTE" || c.Type == "IEND" || strings.Contains("abcdefghijklmnopqrstuvwxyz", c.Type[:1]):
			order += "."
		default:
			return "", false
		}
	}
	runs := len(strings.FieldsFunc(order, func(r rune) bool { return r == '.' }))
	return packed, runs == 1
}

// modelByte is the byte of an image at a row and a column, with a list of rows for the image.
func modelByte(rows [][]byte, y int, x int) int {
	if y < 0 || x < 0 {
		return 0
	}
	return int(rows[y][x])
}

func abs(n int) int {
	if n < 0 {
		return -n
	}
	return n
}

// modelAdded is what is added to a byte.
func modelAdded(filter byte, a int, b int, c int) int {
	switch filter {
	case 0:
		return 0
	case 1:
		return a
	case 2:
		return b
	case 3:
		return (a + b - (a+b)%2) / 2
	}
	to := a + b - c
	least := min(abs(to-a), abs(to-b), abs(to-c))
	switch least {
	case abs(to - a):
		return a
	case abs(to - b):
		return b
	}
	return c
}

// modelRows restores rows; false if a filter does not exist.
func modelRows(s string, w int, h int, samples int) (string, bool) {
	var rows [][]byte
	for y := range h {
		stored := s[y*(w*samples+1) : (y+1)*(w*samples+1)]
		if stored[0] > 4 {
			return "", false
		}
		rows = append(rows, make([]byte, w*samples))
		for x := range w * samples {
			a, b, c := modelByte(rows, y, x-samples), modelByte(rows, y-1, x), modelByte(rows, y-1, x-samples)
			rows[y][x] = byte((int(stored[1+x]) + modelAdded(stored[0], a, b, c)) % 256)
		}
	}
	return string(slices.Concat(rows...)), true
}

// modelDecode is Decode as the chapter tells it.
func modelDecode(s string) (api.Image, api.Errno) {
	l, e := modelSplit(s)
	if e != api.OK {
		return api.Image{}, e
	}
	w, h, samples, e := modelHeader(l[0])
	if e != api.OK {
		return api.Image{}, e
	}
	packed, ok := modelOrder(l[1:])
	if !ok {
		return api.Image{}, api.ErrForm
	}
	n := h * (w*samples + 1)
	rows, took, e := zlib.Unzip(packed, n)
	if e != api.OK {
		return api.Image{}, e
	}
	if took < len(packed) || len(rows) < n {
		return api.Image{}, api.ErrForm
	}
	pixels, ok := modelRows(rows, w, h, samples)
	if !ok {
		return api.Image{}, api.ErrForm
	}
	return api.Image{W: w, H: h, Samples: samples, Pixels: pixels}, api.OK
}

// sameSplit holds Split against the model.
func sameSplit(t *testing.T, s string) api.Errno {
	t.Helper()
	l, e := Split(s)
	want, f := modelSplit(s)
	if !slices.Equal(l, want) || e != f {
		t.Errorf("%.90x: %.90q, %d, not %.90q, %d", s, l, e, want, f)
	}
	return e
}

// sameDecode holds Decode against the model.
func sameDecode(t *testing.T, s string) api.Errno {
	t.Helper()
	m, e := Decode(s)
	want, f := modelDecode(s)
	if m != want || e != f {
		t.Errorf("%.90x: %.90v, %d, not %.90v, %d", s, m, e, want, f)
	}
	return e
}

// noise is n bytes of one of several kinds.
func noise(random *rand.Rand, n int) string {
	b := make([]byte, n)
	switch random.Intn(3) {
	case 0:
		random.Read(b)
	case 1:
		for i := range b {
			b[i] = byte(i/3 + random.Intn(3))
		}
	}
	return string(b)
}

// randomImage is a small one, of any kind.
func randomImage(random *rand.Rand) api.Image {
	m := api.Image{W: 1 + random.Intn(9), H: 1 + random.Intn(9), Samples: []int{1, 3, 4}[random.Intn(3)]}
	m.Pixels = noise(random, m.W*m.H*m.Samples)
	return m
}

// ihdr is the Data of an IHDR.
func ihdr(w uint32, h uint32, color byte) string {
	return be(w) + be(h) + string([]byte{8, color, 0, 0, 0})
}

// of is the file of an image of gray pixels whose rows are stored so.
func of(w uint32, h uint32, rows string) string {
	return raws([]api.Chunk{{Type: "IHDR", Data: ihdr(w, h, 0)}, {Type: "IDAT", Data: zlib.Zip(rows)}, {Type: "IEND"}})
}
