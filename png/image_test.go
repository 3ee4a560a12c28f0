package png

import (
	"bytes"
	"image"
	"image/color"
	other "image/png"
	"math"
	"math/rand"
	"slices"
	"strings"
	"testing"

	"mortise/api"
	"mortise/zlib"
)

func decodes(t *testing.T, s string, m api.Image, e api.Errno) {
	t.Helper()
	if n, f := Decode(s); n != m || f != e {
		t.Errorf("%.90x: %.90v, %d, not %.90v, %d", s, n, f, m, e)
	}
	sameDecode(t, s)
}

func fails(t *testing.T, s string, e api.Errno) {
	t.Helper()
	decodes(t, s, api.Image{}, e)
}

// plain is a correct file's chunks, of 2 by 2 gray pixels.
func plain() []api.Chunk {
	return []api.Chunk{{Type: "IHDR", Data: ihdr(2, 2, 0)}, {Type: "IDAT", Data: zlib.Zip("\x00ab\x00cd")}, {Type: "IEND"}}
}

func with(at int, l ...api.Chunk) []api.Chunk { return slices.Insert(plain(), at, l...) }

func TestP17_2Chunks(t *testing.T) {
	abcd := api.Image{W: 2, H: 2, Samples: 1, Pixels: "abcd"}
	p, d, n := api.Chunk{Type: "PLTE", Data: "any"}, api.Chunk{Type: "IDAT"}, api.Chunk{Type: "nONE", Data: "any"}
	z := zlib.Zip("\x00ab\x00cd")
	parts := []api.Chunk{{Type: "IDAT", Data: z[:1]}, {Type: "IDAT", Data: z[1:5]}, {Type: "IDAT"}, {Type: "IDAT", Data: z[5:]}}
	split := slices.Replace(plain(), 1, 2, parts...)
	for i, l := range [][]api.Chunk{plain(), with(1, p), with(2, p), with(1, p, p, n), with(2, n, p, p), with(1, n), with(2, n), with(1, d), with(2, d, d), with(1, d, d), split,
		slices.Insert(split, 1, n, p), slices.Insert(split, 5, p, n), with(1, api.Chunk{Type: "iDAT"}), with(1, api.Chunk{Type: "aZZZ"}, api.Chunk{Type: "zAAA"}, api.Chunk{Type: "ihdr"})} {
		decodes(t, raws(l), abcd, api.OK)
		if t.Failed() {
			t.Fatalf("list %d", i)
		}
	}
	for i, l := range [][]api.Chunk{
		with(1, plain()[0]), with(2, plain()[0]), with(1, api.Chunk{Type: "IHDR"}), // a second IHDR
		{plain()[0], plain()[1], {Type: "IEND", Data: "\x00"}},
		with(1, api.Chunk{Type: "ABCD"}), with(2, api.Chunk{Type: "Iend"}), with(1, api.Chunk{Type: "Zzzz"}), with(1, api.Chunk{Type: "PLTe"}), with(2, api.Chunk{Type: "IDAt"}),
		slices.Delete(plain(), 1, 2), {plain()[0], p, n, {Type: "IEND"}}, // no IDAT
		with(2, p, d), with(2, n, d), with(1, d, n), with(1, d, d, p), slices.Insert(split, 2, n), slices.Insert(split, 3, p), slices.Insert(split, 4, n),
	} {
		fails(t, raws(l), api.ErrForm)
		if t.Failed() {
			t.Fatalf("list %d", i)
		}
	}
}

// TestP17_2FirstChunk: it must be an IHDR of 13 bytes, each byte of which is tried with all its values.
func TestP17_2FirstChunk(t *testing.T) {
	for _, c := range []api.Chunk{{Type: "IHDR"}, {Type: "IHDR", Data: ihdr(2, 2, 0)[:12]}, {Type: "IHDR", Data: ihdr(2, 2, 0) + "\x00"}, {Type: "ihdr", Data: ihdr(2, 2, 0)}, {Type: "IDAT", Data: ihdr(2, 2, 0)}, {Type: "IHDr", Data: ihdr(2, 2, 0)}} {
		l := plain()
		l[0] = c
		fails(t, raws(l), api.ErrForm)
	}
	fails(t, raws(slices.Insert(plain(), 0, api.Chunk{Type: "abcd"})), api.ErrForm)
	fails(t, raws(plain()[1:]), api.ErrForm)
	fails(t, raws(plain()[2:]), api.ErrForm)
	seen := map[api.Errno]int{}
	for i := range 13 {
		for c := range 256 {
			l := plain()
			b := []byte(l[0].Data)
			b[i] = byte(c)
			l[0].Data = string(b)
			seen[sameDecode(t, raws(l))]++
		}
	}
	if seen[api.OK] != 13 || seen[api.ErrLimit] < 1000 || seen[api.ErrForm] < 1000 {
		t.Errorf("%v", seen)
	}
}

func TestP17_2Kinds(t *testing.T) {
	for _, c := range []struct {
		color   byte
		samples int
	}{{0, 1}, {2, 3}, {6, 4}} {
		pixels := "abcdefghijkl"
		w := uint32(12 / c.samples)
		decodes(t, raws([]api.Chunk{{Type: "IHDR", Data: ihdr(w, 1, c.color)}, {Type: "IDAT", Data: zlib.Zip("\x00" + pixels)}, {Type: "IEND"}}), api.Image{W: int(w), H: 1, Samples: c.samples, Pixels: pixels}, api.OK)
	}
	for _, c := range []byte{1, 3, 4, 5, 7, 8, 255} {
		fails(t, raws([]api.Chunk{{Type: "IHDR", Data: ihdr(2, 1, c)}, {Type: "IDAT", Data: zlib.Zip("\x00ab")}, {Type: "IEND"}}), api.ErrForm)
	}
}

// TestP17_2Limit: sides and sizes at the limit are no error of their own, whatever else is wrong.
func TestP17_2Limit(t *testing.T) {
	for _, c := range []struct {
		w     uint32
		h     uint32
		color byte
		e     api.Errno
	}{
		{4096, 4096, 0, api.ErrCut}, {4097, 1, 0, api.ErrLimit}, {1, 4097, 0, api.ErrLimit}, {4096, 1, 0, api.ErrCut}, {1, 4096, 0, api.ErrCut},
		{4096, 1365, 2, api.ErrCut}, {4096, 1366, 2, api.ErrLimit}, {1365, 4096, 2, api.ErrCut}, {1366, 4096, 2, api.ErrLimit},
		{4096, 1024, 6, api.ErrCut}, {4096, 1025, 6, api.ErrLimit}, {1025, 4096, 6, api.ErrLimit}, {2048, 2048, 6, api.ErrCut}, {2049, 2048, 6, api.ErrLimit},
		{1<<32 - 1, 1<<32 - 1, 0, api.ErrLimit}, {1 << 31, 1 << 31, 6, api.ErrLimit}, {1 << 31, 1, 0, api.ErrLimit}, {65536, 65536, 6, api.ErrLimit}, {1 << 16, 1 << 31, 2, api.ErrLimit},
		{0, 1, 0, api.ErrForm}, {1, 0, 0, api.ErrForm}, {0, 0, 0, api.ErrForm}, {0, 1<<32 - 1, 0, api.ErrForm}, {4097, 0, 0, api.ErrForm}, {4097, 1, 1, api.ErrForm},
	} {
		l := []api.Chunk{{Type: "IHDR", Data: ihdr(c.w, c.h, c.color)}, {Type: "IDAT"}, {Type: "IEND"}}
		fails(t, raws(l), c.e)
		// That an image is too large is known ahead of what follows, and that it has no size or kind ahead of that.
		if c.e == api.ErrCut {
			c.e = api.ErrForm
		}
		fails(t, raws(slices.Delete(l, 1, 2)), c.e)
	}
}

// TestP17_2Order: of several errors, the one that the promise names first.
func TestP17_2Order(t *testing.T) {
	bad := api.Chunk{Type: "ABCD"}
	large := slices.Insert(plain(), 1, bad)
	large[0].Data = ihdr(5000, 2, 0)
	fails(t, raws(large), api.ErrLimit)
	large[0].Data = ihdr(5000, 2, 1)
	fails(t, raws(large), api.ErrForm)
	fails(t, raws(large)+"z", api.ErrForm)
	s := raws(large)
	fails(t, s[:len(s)-1]+"\x83", api.ErrSum)
	fails(t, s[:len(s)-1], api.ErrCut)
	sum := []api.Chunk{{Type: "IHDR", Data: ihdr(2, 2, 0)}, {Type: "IDAT", Data: zlib.Zip("\x05ab\x00cd")[:10] + "zzzz"}, {Type: "IEND"}}
	for _, c := range []api.Chunk{bad, {Type: "IHDR"}} {
		fails(t, raws(slices.Insert(slices.Clone(sum), 1, c)), api.ErrForm)
	}
}

func TestP17_2Unzip(t *testing.T) {
	file := func(z string) string {
		l := plain()
		l[1].Data = z
		return raws(l)
	}
	good := zlib.Zip("\x00ab\x00cd")
	flip := []byte(good)
	flip[len(flip)-1] ^= 1
	five := []byte(zlib.Zip("\x05ab\x00cd"))
	five[len(five)-1] ^= 1
	for _, c := range []struct {
		z string
		e api.Errno
	}{
		{good, api.OK}, {"", api.ErrCut}, {"\x78", api.ErrCut}, {good[:len(good)-1], api.ErrCut}, {"\x78\x9d" + good[2:], api.ErrForm}, {string(flip), api.ErrSum}, {string(five), api.ErrSum},
		{good + "\x00", api.ErrForm}, {good + good, api.ErrForm}, {"\x00" + good, api.ErrForm},
		{zlib.Zip("\x00ab\x00c"), api.ErrForm}, {zlib.Zip("\x00ab"), api.ErrForm}, {zlib.Zip(""), api.ErrForm},
		{zlib.Zip("\x00ab\x00cde"), api.ErrLimit}, {zlib.Zip("\x00ab\x00cd\x00ef"), api.ErrLimit}, {zlib.Zip("\x00ab\x00cde") + "\x00", api.ErrLimit}, {zlib.Zip("\x05ab\x00cde"), api.ErrLimit}, {zlib.Zip(strings.Repeat("z", 100000)), api.ErrLimit},
	} {
		m := api.Image{}
		if c.e == api.OK {
			m = api.Image{W: 2, H: 2, Samples: 1, Pixels: "abcd"}
		}
		decodes(t, file(c.z), m, c.e)
	}
}

// TestP17_2EveryFilter in each row.
func TestP17_2EveryFilter(t *testing.T) {
	for filter := range 256 {
		f := string([]byte{byte(filter)})
		e := api.ErrForm
		if filter <= 4 {
			e = api.OK
		}
		for _, rows := range []string{f + "ab\x00cd\x00ef", "\x01ab" + f + "cd\x02ef", "\x00ab\x00cd" + f + "ef"} {
			if g := sameDecode(t, of(2, 3, rows)); g != e {
				t.Errorf("filter %d: %d", filter, g)
			}
		}
	}
}

func TestP17_2Filters(t *testing.T) {
	for _, c := range []struct{ rows, pixels string }{
		{"\x00\x01\x02\x03\x00\x04\x05\x06", "\x01\x02\x03\x04\x05\x06"},
		{"\x01\x01\x02\x03\x01\xff\x02\x80", "\x01\x03\x06\xff\x01\x81"},
		{"\x02\x01\x02\x03\x02\xff\x02\x80", "\x01\x02\x03\x00\x04\x83"},
		{"\x00\xff\xfe\x03\x03\x00\x00\x00", "\xff\xfe\x03\x7f\xbe\x60"}, // the sum does not wrap around, and its half is rounded down
		{"\x03\x05\x00\x01\x03\x01\x00\x00", "\x05\x02\x02\x03\x02\x02"},
		{"\x04\x05\x01\x01\x04\x01\x00\x00", "\x05\x06\x07\x06\x06\x07"},
	} {
		decodes(t, of(3, 2, c.rows), api.Image{W: 3, H: 2, Samples: 1, Pixels: c.pixels}, api.OK)
	}
}

// TestP17_2Nearest: of a, b and c, for numbers that are equally near, or far from each other.
func TestP17_2Nearest(t *testing.T) {
	l := []byte{0, 1, 2, 3, 7, 8, 100, 127, 128, 129, 200, 254, 255}
	for _, a := range l {
		for _, b := range l {
			for _, c := range l {
				n := byte(modelAdded(4, int(a), int(b), int(c)))
				rows := string([]byte{0, c, b, 4, a - c, 0}) // to the first byte below, c is added, as there is only the one above it
				decodes(t, of(2, 2, rows), api.Image{W: 2, H: 2, Samples: 1, Pixels: string([]byte{c, b, a, n})}, api.OK)
			}
		}
	}
	for _, c := range [][4]byte{{8, 11, 10, 8}, {12, 9, 10, 12}, {11, 8, 10, 8}, {9, 12, 10, 12}, {3, 5, 4, 4}, {5, 3, 4, 4}, {0, 255, 255, 0}, {255, 255, 0, 255}, {255, 0, 255, 0}, {0, 0, 255, 0}, {10, 20, 10, 20}, {10, 20, 12, 20}, {10, 20, 18, 10}, {100, 50, 70, 70}, {50, 100, 70, 70}, {9, 9, 1, 9}} {
		if n := nearest(int(c[0]), int(c[1]), int(c[2])); n != int(c[3]) {
			t.Errorf("nearest of %v: %d", c, n)
		}
	}
}

// TestP17_2Rows: with rows of any bytes, there is what the model returns.
func TestP17_2Rows(t *testing.T) {
	random := rand.New(rand.NewSource(3))
	for range 3000 {
		m := randomImage(random)
		rows := ""
		for range m.H {
			rows += string([]byte{byte(random.Intn(5))}) + noise(random, m.W*m.Samples)
		}
		color := map[int]byte{1: 0, 3: 2, 4: 6}[m.Samples]
		l := []api.Chunk{{Type: "IHDR", Data: ihdr(uint32(m.W), uint32(m.H), color)}, {Type: "IDAT", Data: zlib.Zip(rows)}, {Type: "IEND"}}
		if e := sameDecode(t, raws(l)); e != api.OK {
			t.Errorf("error %d", e)
		}
	}
}

// TestP17_2Changed: with chunks and bytes changed, there is what the model returns.
func TestP17_2Changed(t *testing.T) {
	random := rand.New(rand.NewSource(4))
	seen := map[api.Errno]int{}
	for range 20000 {
		s, _ := Encode(randomImage(random))
		l, _ := modelSplit(s)
		for range random.Intn(3) {
			i := random.Intn(len(l) - 1)
			switch random.Intn(5) {
			case 0:
				l = slices.Insert(l, i, api.Chunk{Type: []string{"PLTE", "IDAT", "IHDR", "tEXt", "ABCD"}[random.Intn(5)]})
			case 1:
				l[i] = l[random.Intn(len(l)-1)]
			case 2:
				l[i].Data = l[i].Data[:random.Intn(len(l[i].Data)+1)]
			default:
				b := []byte(l[i].Data + "z")
				b[random.Intn(len(b))] ^= 1 << random.Intn(8)
				l[i].Data = string(b[:len(b)-1])
			}
		}
		seen[sameDecode(t, raws(l))]++
	}
	for _, e := range []api.Errno{api.OK, api.ErrCut, api.ErrForm, api.ErrSum, api.ErrLimit} {
		if seen[e] < 100 {
			t.Errorf("error %d: %d times", e, seen[e])
		}
	}
}

func TestP17_3Encode(t *testing.T) {
	random := rand.New(rand.NewSource(5))
	for range 2000 {
		m := randomImage(random)
		rows := ""
		for y := range m.H {
			rows += "\x00" + m.Pixels[y*m.W*m.Samples:(y+1)*m.W*m.Samples]
		}
		color := map[int]byte{1: 0, 3: 2, 4: 6}[m.Samples]
		want := raws([]api.Chunk{{Type: "IHDR", Data: ihdr(uint32(m.W), uint32(m.H), color)}, {Type: "IDAT", Data: zlib.Zip(rows)}, {Type: "IEND"}})
		s, e := Encode(m)
		if s != want || e != api.OK {
			t.Errorf("%v: %x, %d", m, s, e)
		}
		decodes(t, s, m, api.OK) // P17.4
	}
}

func TestP17_3Invalid(t *testing.T) {
	zeros := func(n int) string { return string(make([]byte, n)) }
	for _, m := range []api.Image{
		{}, {W: 1, H: 1, Samples: 1}, {W: 1, H: 1, Samples: 1, Pixels: "ab"}, {W: 2, H: 3, Samples: 3, Pixels: zeros(17)}, {W: 2, H: 3, Samples: 3, Pixels: zeros(19)},
		{W: 0, H: 1, Samples: 1}, {W: 1, H: 0, Samples: 1}, {W: -1, H: -1, Samples: 1, Pixels: "a"}, {W: -1, H: 1, Samples: -1, Pixels: "a"}, {W: 1, H: -1, Samples: -1, Pixels: "a"}, {W: -1, H: 1, Samples: 1},
		{W: 1, H: 1, Samples: 0}, {W: 1, H: 1, Samples: 2, Pixels: "ab"}, {W: 1, H: 1, Samples: 5, Pixels: "abcde"}, {W: 1, H: 1, Samples: 6, Pixels: "abcdef"}, {W: 1, H: 1, Samples: 8, Pixels: "abcdefgh"},
		{W: 4097, H: 1, Samples: 1, Pixels: zeros(4097)}, {W: 1, H: 4097, Samples: 1, Pixels: zeros(4097)},
		{W: 4096, H: 1366, Samples: 3, Pixels: zeros(4096 * 1366 * 3)}, {W: 1025, H: 4096, Samples: 4, Pixels: zeros(1025 * 4096 * 4)},
		{W: 1 << 32, H: 1 << 32, Samples: 1}, {W: 1 << 62, H: 4, Samples: 1}, {W: math.MaxInt, H: math.MaxInt, Samples: 1, Pixels: "a"}, {W: math.MinInt, H: 2, Samples: 1}, {W: 1, H: 1, Samples: math.MaxInt}, {W: 1, H: 1, Samples: 1 << 62},
	} {
		if s, e := Encode(m); s != "" || e != api.ErrArg {
			t.Errorf("%d, %d, %d, %d bytes: %x, %d", m.W, m.H, m.Samples, len(m.Pixels), s, e)
		}
	}
}

// TestP17_3Greatest images, which are as large as may be.
func TestP17_3Greatest(t *testing.T) {
	for _, m := range []api.Image{{W: 4096, H: 4096, Samples: 1}, {W: 4096, H: 1, Samples: 4}, {W: 1, H: 4096, Samples: 3}, {W: 1024, H: 4096, Samples: 4}} {
		m.Pixels = strings.Repeat("\x01", m.W*m.H*m.Samples)
		s, e := Encode(m)
		if e != api.OK {
			t.Fatalf("%d, %d, %d: %d", m.W, m.H, m.Samples, e)
		}
		if n, e := Decode(s); n != m || e != api.OK {
			t.Errorf("%d, %d, %d: %d", m.W, m.H, m.Samples, e)
		}
	}
}

// pixelOf is a pixel of an image of package image.
func pixelOf(m api.Image, x int, y int) color.Color {
	p := m.Pixels[(y*m.W+x)*m.Samples:]
	switch m.Samples {
	case 1:
		return color.Gray{p[0]}
	case 3:
		return color.NRGBA{p[0], p[1], p[2], 255}
	}
	return color.NRGBA{p[0], p[1], p[2], p[3]}
}

// TestP17_3OtherReader: another reader finds the same pixels.
func TestP17_3OtherReader(t *testing.T) {
	random := rand.New(rand.NewSource(6))
	for range 300 {
		m := randomImage(random)
		s, _ := Encode(m)
		p, err := other.Decode(strings.NewReader(s))
		if err != nil || p.Bounds() != image.Rect(0, 0, m.W, m.H) {
			t.Fatalf("%v: %v", m, err)
		}
		for y := range m.H {
			for x := range m.W {
				want := pixelOf(m, x, y)
				if got := color.NRGBAModel.Convert(p.At(x, y)); got != color.NRGBAModel.Convert(want) {
					t.Fatalf("%v: %d, %d: %v, not %v", m, x, y, got, want)
				}
			}
		}
	}
}

// pictures are images for another writer, which chooses a filter for each row.
func pictures(random *rand.Rand) (api.Image, image.Image) {
	m := api.Image{W: 1 + random.Intn(60), H: 1 + random.Intn(60), Samples: []int{1, 3, 4}[random.Intn(3)]}
	b := make([]byte, m.W*m.H*m.Samples)
	for i := range b {
		x, y := i%(m.W*m.Samples), i/(m.W*m.Samples)
		b[i] = byte(x*x/7 + y*y/5 + x*y/9 + random.Intn(4))
	}
	if m.Samples == 4 {
		b[3] = 7 // not opaque
	}
	m.Pixels = string(b)
	box := image.Rect(0, 0, m.W, m.H)
	if m.Samples == 1 {
		return m, &image.Gray{Pix: b, Stride: m.W, Rect: box}
	}
	p := image.NewNRGBA(box)
	for y := range m.H {
		for x := range m.W {
			p.Set(x, y, pixelOf(m, x, y))
		}
	}
	return m, p
}

func TestP17_2OfAnotherWriter(t *testing.T) {
	random := rand.New(rand.NewSource(7))
	for range 300 {
		m, p := pictures(random)
		for _, level := range []other.CompressionLevel{other.DefaultCompression, other.NoCompression, other.BestSpeed, other.BestCompression} {
			var b bytes.Buffer
			w := other.Encoder{CompressionLevel: level}
			if err := w.Encode(&b, p); err != nil {
				t.Fatal(err)
			}
			decodes(t, b.String(), m, api.OK)
		}
	}
}

// TestP17_4ChangedImage: a changed byte that does not belong to a length is detected by Decode, too.
func TestP17_4ChangedImage(t *testing.T) {
	s, _ := Encode(api.Image{W: 2, H: 1, Samples: 3, Pixels: "abcdef"})
	l, _ := modelSplit(s)
	second := 33
	third := second + 12 + len(l[1].Data)
	for i := range len(s) {
		if i >= 8 && i < 12 || i >= second && i < second+4 || i >= third && i < third+4 {
			continue
		}
		for c := range 256 {
			b := []byte(s)
			b[i] = byte(c)
			if m, e := Decode(string(b)); b[i] != s[i] && (e == api.OK || m != api.Image{}) {
				t.Errorf("byte %d as %d: %d", i, c, e)
			}
		}
	}
}

func TestR6AskedAgain(t *testing.T) {
	random := rand.New(rand.NewSource(8))
	for range 100 {
		m := randomImage(random)
		s, _ := Encode(m)
		Decode(s[:len(s)-1])
		Encode(api.Image{})
		Encode(randomImage(random))
		if again, e := Encode(m); again != s || e != api.OK {
			t.Errorf("%v: another answer", m)
		}
		for range 2 {
			decodes(t, s, m, api.OK)
		}
	}
}

func TestExampleOfTheChapter(t *testing.T) {
	s, e := Encode(api.Image{W: 1, H: 1, Samples: 1, Pixels: "x"})
	if e != api.OK || s[:33] != mark+raw("IHDR", ihdr(1, 1, 0)) || s[37:41] != "IDAT" || s[len(s)-12:] != raw("IEND", "") {
		t.Errorf("%x, %d", s, e)
	}
}
