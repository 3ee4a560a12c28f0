package wav

import (
	"math"
	"math/rand"
	"slices"
	"testing"

	"mortise/api"
)

func reads(t *testing.T, s string, e api.Errno) {
	t.Helper()
	if m, f := Read(s); f != e {
		t.Errorf("%.200q: %.200v, %d, not %d", s, m, f, e)
	}
	sameRead(t, s)
}

func writes(t *testing.T, m api.Sound, e api.Errno) {
	t.Helper()
	if _, f := sameWrite(t, m); f != e {
		t.Errorf("%.200v: %d, not %d", m, f, e)
	}
}

// mono is a valid sound.
func mono() api.Sound { return api.Sound{Channels: 1, Rate: 8000, Bits: 8, Frames: "abc"} }

func TestP19_3Bytes(t *testing.T) {
	m := api.Sound{Channels: 3, Rate: 0x10203, Bits: 24, Frames: "123456789", More: []api.Chunk{{Type: "LIST", Data: "xyz"}, {Type: "LIST"}}}
	s, e := Write(m)
	want := "RIFF\x42\x00\x00\x00WAVE" +
		"fmt \x10\x00\x00\x00\x01\x00\x03\x00\x03\x02\x01\x00\x1b\x12\x09\x00\x09\x00\x18\x00" +
		"data\x09\x00\x00\x00123456789\x00" +
		"LIST\x03\x00\x00\x00xyz\x00" + "LIST\x00\x00\x00\x00"
	if s != want || e != api.OK {
		t.Errorf("%q, %d, not %q", s, e, want)
	}
	// The greatest numbers.
	s, e = Write(api.Sound{Channels: 16, Rate: 1 << 24, Bits: 32})
	want = "RIFF\x24\x00\x00\x00WAVEfmt \x10\x00\x00\x00\x01\x00\x10\x00\x00\x00\x00\x01\x00\x00\x00\x40\x40\x00\x20\x00data\x00\x00\x00\x00"
	if s != want || e != api.OK {
		t.Errorf("%q, %d, not %q", s, e, want)
	}
}

// TestP19_3Numbers: each that a sound may have, and those beside them.
func TestP19_3Numbers(t *testing.T) {
	odd := []int{-1, math.MinInt, math.MaxInt, 1<<16 + 1, 1<<32 + 1, 1<<61 + 1}
	for n := range 40 {
		writes(t, api.Sound{Channels: n, Rate: 1, Bits: 8}, errorOf(n >= 1 && n <= 16))
		writes(t, api.Sound{Channels: 2, Rate: 1, Bits: n}, errorOf(n == 8 || n == 16 || n == 24 || n == 32))
	}
	for _, n := range odd {
		writes(t, api.Sound{Channels: n, Rate: 1, Bits: 8}, api.ErrArg)
		writes(t, api.Sound{Channels: 1, Rate: 1, Bits: n}, api.ErrArg)
	}
	for _, n := range []int{0, 1, 2, 255, 256, 44100, 1<<24 - 1, 1 << 24, 1<<24 + 1, 1 << 25, 1 << 32, 1<<32 + 1, -1, math.MinInt, math.MaxInt} {
		for channels := 1; channels <= 16; channels++ {
			for bits := 8; bits <= 32; bits += 8 {
				writes(t, api.Sound{Channels: channels, Rate: n, Bits: bits}, errorOf(n >= 1 && n <= 1<<24))
			}
		}
	}
}

func errorOf(ok bool) api.Errno {
	if ok {
		return api.OK
	}
	return api.ErrArg
}

// TestP19_3Frames: whole ones only.
func TestP19_3Frames(t *testing.T) {
	for channels := 1; channels <= 16; channels++ {
		for width := 1; width <= 4; width++ {
			for n := range 3*channels*width + 1 {
				m := api.Sound{Channels: channels, Rate: 1, Bits: 8 * width, Frames: zeros(n)}
				whole := n%(channels*width) == 0
				writes(t, m, errorOf(whole))
				s := raws("WAVE", []api.Chunk{{Type: "fmt ", Data: modelFormat(m)}, {Type: "data", Data: m.Frames}})
				reads(t, s, map[bool]api.Errno{true: api.OK, false: api.ErrForm}[whole])
			}
		}
	}
}

func TestP19_3More(t *testing.T) {
	m := mono()
	for _, kind := range []string{"fmt ", "data", "", "abc", "abcde", "ab\x1fd", "ab\x7fd", zeros(4)} {
		x := api.Chunk{Type: kind, Data: "x"}
		for _, l := range [][]api.Chunk{{x}, {{Type: "LIST"}, x}, {x, {Type: "LIST"}}} {
			m.More = l
			writes(t, m, api.ErrArg)
		}
	}
	for _, kind := range []string{"FMT ", "fmt_", "DATA", "dat ", "RIFF", "WAVE", "    ", "~~~~"} {
		m.More = []api.Chunk{{Type: kind, Data: "x"}, {Type: kind, Data: "xy"}, {Type: kind}}
		writes(t, m, api.OK)
	}
	m.More = []api.Chunk{}
	writes(t, m, api.OK)
}

// TestP19_2Order: one fmt, and behind it one data, between any others.
func TestP19_2Order(t *testing.T) {
	m := mono()
	chunks := map[rune]api.Chunk{'f': {Type: "fmt ", Data: modelFormat(m)}, 'd': {Type: "data", Data: m.Frames}, 'x': {Type: "LIST", Data: "x"}, 'y': {Type: "cue ", Data: "yy"}}
	good := 0
	for n := range 1 << 10 {
		var l []api.Chunk
		order, more := "", ""
		for k := n; k > 1; k /= 4 {
			c := rune("fdxy"[k%4])
			l = append(l, chunks[c])
			if c == 'f' || c == 'd' {
				order += string(c)
			} else {
				more += string(c)
			}
		}
		e := api.ErrForm
		if order == "fd" {
			e = api.OK
			good++
		}
		s := raws("WAVE", l)
		reads(t, s, e)
		got, _ := Read(s)
		seen := ""
		for _, c := range got.More {
			seen += map[string]string{"LIST": "x", "cue ": "y"}[c.Type]
		}
		if e == api.OK && (seen != more || got.Frames != m.Frames || got.Channels != 1) {
			t.Errorf("%s: %v", more, got)
		}
	}
	if good < 50 {
		t.Errorf("%d are good", good)
	}
	// Each of several must be there once, be they the same or not.
	f, d := chunks['f'], chunks['d']
	for _, l := range [][]api.Chunk{nil, {f}, {d}, {d, f}, {f, f, d}, {f, d, f}, {f, d, d}, {d, f, d}, {f, {Type: "data"}, d}, {{Type: "fmt "}, f, d}, {f, {Type: "fmt "}, d}} {
		reads(t, raws("WAVE", l), api.ErrForm)
	}
}

func TestP19_2Form(t *testing.T) {
	s, _ := Write(mono())
	for i := 8; i < 12; i++ {
		for c := range 256 {
			bad := change(s, i, octet(c))
			if bad != s {
				reads(t, bad, api.ErrForm)
			}
		}
	}
	reads(t, s, api.OK)
	// What Split returns comes first.
	reads(t, change(s, 8, "AVI ")[:len(s)-1], api.ErrCut)
	reads(t, change(s[:len(s)-2], 4, le32(len(s)-10)), api.ErrCut)
	reads(t, riff("AVI "+"abcd"), api.ErrCut)
	reads(t, riff("WAVE"+raw("data", "")+"abcd"), api.ErrCut)
	reads(t, riff("WAVE"+raw("data", "")+"abc\x00\x01\x00\x00\x00"), api.ErrForm)
}

// TestP19_2Format: each byte of a fmt with each value.
func TestP19_2Format(t *testing.T) {
	for _, m := range []api.Sound{mono(), {Channels: 16, Rate: 1 << 24, Bits: 32}, {Channels: 2, Rate: 44100, Bits: 16}, {Channels: 4, Rate: 256, Bits: 24}} {
		m.Frames = ""
		s, _ := Write(m)
		for i := range 16 {
			for c := range 256 {
				bad := change(s, 20+i, octet(c))
				// The numbers that follow from others are not right for any others.
				if bad != s {
					reads(t, bad, api.ErrForm)
				}
			}
		}
	}
	// Numbers that follow from wrong ones.
	for _, m := range []api.Sound{{Channels: 0, Rate: 1, Bits: 8}, {Channels: 17, Rate: 1, Bits: 8}, {Channels: 1, Rate: 0, Bits: 8}, {Channels: 1, Rate: 1<<24 + 1, Bits: 8}, {Channels: 1, Rate: 1, Bits: 0}, {Channels: 1, Rate: 1, Bits: 12}, {Channels: 1, Rate: 1, Bits: 40}, {Channels: 2, Rate: 1, Bits: 4}, {Channels: 1, Rate: 1, Bits: 64}, {Channels: 65535, Rate: 1, Bits: 8}, {Channels: 1, Rate: 1, Bits: 65528}} {
		reads(t, raws("WAVE", []api.Chunk{{Type: "fmt ", Data: modelFormat(m)}, {Type: "data"}}), api.ErrForm)
	}
	for channels := range 20 {
		for bits := range 40 {
			m := api.Sound{Channels: channels, Rate: 3, Bits: bits}
			e := api.ErrForm
			if channels >= 1 && channels <= 16 && bits%8 == 0 && bits >= 8 && bits <= 32 {
				e = api.OK
			}
			reads(t, raws("WAVE", []api.Chunk{{Type: "fmt ", Data: modelFormat(m)}, {Type: "data"}}), e)
		}
	}
	// A fmt of another length.
	f := modelFormat(mono())
	for n := range 40 {
		e := api.ErrForm
		if n == 16 {
			e = api.OK
		}
		reads(t, raws("WAVE", []api.Chunk{{Type: "fmt ", Data: (f + zeros(24))[:n]}, {Type: "data"}}), e)
	}
}

// TestP19_2EveryByte of a file, with each value, and each length of it.
func TestP19_2EveryByte(t *testing.T) {
	m := api.Sound{Channels: 2, Rate: 44100, Bits: 16, Frames: "abcdefgh", More: []api.Chunk{{Type: "LIST", Data: "xyz"}}}
	s, _ := Write(m)
	for i := range len(s) {
		for c := range 256 {
			sameRead(t, change(s, i, octet(c)))
		}
		reads(t, s[:i], api.ErrCut)
		sameRead(t, riff(s[min(8, i):i]))
	}
}

// TestP19_4WrittenIsRead, and what is read is written with the same bytes if it stands in Write's order.
func TestP19_4WrittenIsRead(t *testing.T) {
	random := rand.New(rand.NewSource(3))
	for range 5000 {
		m := randomSound(random)
		s, e := sameWrite(t, m)
		if e != api.OK {
			t.Errorf("%v: %d", m, e)
		}
		form, l, _ := Split(s)
		// Other chunks may stand ahead of both, and between them.
		i, k := random.Intn(3), 0
		if len(l) > 2 {
			k = 2 + random.Intn(len(l)-2)
			l = slices.Insert(slices.Delete(slices.Clone(l), k, k+1), i, l[k])
		}
		n, e := Read(raws(form, l))
		m.More = slices.DeleteFunc(l, func(c api.Chunk) bool { return c.Type == "fmt " || c.Type == "data" })
		if !sameSound(n, m) || e != api.OK {
			t.Errorf("%v: %v, %d", m, n, e)
		}
	}
}

// TestP19_2Changed: with chunks in any order, and bytes changed, there is what the model returns.
func TestP19_2Changed(t *testing.T) {
	random := rand.New(rand.NewSource(4))
	seen := map[api.Errno]int{}
	for range 20000 {
		s, _ := Write(randomSound(random))
		form, l, _ := Split(s)
		if random.Intn(4) == 0 {
			random.Shuffle(len(l), func(i int, k int) { l[i], l[k] = l[k], l[i] })
		}
		if random.Intn(8) == 0 {
			l = append(l, l[random.Intn(len(l))])
		}
		s = raws(form, l)
		if random.Intn(2) == 0 {
			s = change(s, random.Intn(len(s)), octet([]int{0, 1, 255, random.Intn(256)}[random.Intn(4)]))
		}
		seen[sameRead(t, s)]++
	}
	for _, e := range []api.Errno{api.OK, api.ErrCut, api.ErrForm} {
		if seen[e] < 500 {
			t.Errorf("error %d: %d times", e, seen[e])
		}
	}
}

// TestR5SoundMemory: what is returned is new, and arguments stay as they are.
func TestR5SoundMemory(t *testing.T) {
	room := make([]api.Chunk, 1, 9)
	room[0] = api.Chunk{Type: "LIST", Data: "xyz"}
	m := api.Sound{Channels: 1, Rate: 1, Bits: 8, Frames: "frames", More: room}
	s, _ := Write(m)
	if !sameSound(m, api.Sound{Channels: 1, Rate: 1, Bits: 8, Frames: "frames", More: []api.Chunk{{Type: "LIST", Data: "xyz"}}}) || room[:2][1] != (api.Chunk{}) {
		t.Errorf("%v", m)
	}
	n, _ := Read(s)
	if inside(n.Frames, s) || inside(n.More[0].Type, s) || inside(n.More[0].Data, s) {
		t.Error("the sound lies in the argument")
	}
	n.More[0].Data = "changed"
	if again, e := Read(s); !sameSound(again, m) || e != api.OK { // R6
		t.Errorf("%v, %d", again, e)
	}
	if again, e := Write(m); again != s || e != api.OK {
		t.Errorf("%q, %d", again, e)
	}
}

func TestExamplesOfTheChapter(t *testing.T) {
	if s, e := Write(mono()); len(s) != 48 || e != api.OK {
		t.Errorf("%q, %d", s, e)
	}
}
