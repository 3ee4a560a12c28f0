package wav

import (
	"encoding/binary"
	"math/rand"
	"slices"
	"strings"
	"testing"

	"mortise/api"
)

func le16(n int) string { return string(binary.LittleEndian.AppendUint16(nil, uint16(n))) }

func le32(n int) string { return string(binary.LittleEndian.AppendUint32(nil, uint32(n))) }

// raw is a chunk as it is stored, whatever it holds.
func raw(kind string, data string) string {
	s := kind + le32(len(data)) + data
	if len(data)%2 == 1 {
		s += "\x00"
	}
	return s
}

// riff is a file with the right number of bytes, whatever it holds.
func riff(rest string) string { return "RIFF" + le32(len(rest)) + rest }

// raws is a file of chunks, whatever they are.
func raws(form string, l []api.Chunk) string {
	for _, c := range l {
		form += raw(c.Type, c.Data)
	}
	return riff(form)
}

func goodType(s string) bool {
	good := 0
	for _, c := range []byte(s) {
		if c > 31 && c < 127 {
			good++
		}
	}
	return len(s) == 4 && good == 4
}

// modelSplit is Split as the chapter tells it.
func modelSplit(s string) (string, []api.Chunk, api.Errno) {
	if len(s) < 12 {
		return "", nil, api.ErrCut
	}
	form, n := s[8:12], int64(binary.LittleEndian.Uint32([]byte(s[4:])))
	if s[:4] != "RIFF" || !goodType(form) {
		return "", nil, api.ErrForm
	}
	if n > int64(len(s[8:])) {
		return "", nil, api.ErrCut
	}
	if n < int64(len(s[8:])) || n < 4 {
		return "", nil, api.ErrForm
	}
	var l []api.Chunk
	for s = s[12:]; s != ""; {
		if len(s) < 8 {
			return "", nil, api.ErrCut
		}
		kind, n := s[:4], int64(binary.LittleEndian.Uint32([]byte(s[4:])))
		if !goodType(kind) {
			return "", nil, api.ErrForm
		}
		s = s[8:]
		if n+n%2 > int64(len(s)) {
			return "", nil, api.ErrCut
		}
		if n%2 == 1 && s[n] != 0 {
			return "", nil, api.ErrForm
		}
		l = append(l, api.Chunk{Type: kind, Data: s[:n]})
		s = s[n+n%2:]
	}
	return form, l, api.OK
}

// modelFormat is the fmt of a sound.
func modelFormat(m api.Sound) string {
	a := m.Channels * m.Bits / 8
	return le16(1) + le16(m.Channels) + le32(m.Rate) + le32(m.Rate*a) + le16(a) + le16(m.Bits)
}

func goodFormat(m api.Sound) bool {
	return 1 <= m.Channels && m.Channels <= 16 && 1 <= m.Rate && m.Rate <= 16777216 && slices.Contains([]int{8, 16, 24, 32}, m.Bits)
}

// modelRead is Read as the chapter tells it.
func modelRead(s string) (api.Sound, api.Errno) {
	form, l, e := modelSplit(s)
	if e != api.OK {
		return api.Sound{}, e
	}
	order, format := "", ""
	var m api.Sound
	for _, c := range l {
		switch c.Type {
		case "fmt ":
			order += "f"
			format = c.Data
		case "data":
			order += "d"
			m.Frames = c.Data
		default:
			m.More = append(m.More, c)
		}
	}
	if form != "WAVE" || order != "fd" || len(format) != 16 {
		return api.Sound{}, api.ErrForm
	}
	m.Channels = int(binary.LittleEndian.Uint16([]byte(format[2:])))
	m.Rate = int(binary.LittleEndian.Uint32([]byte(format[4:])))
	m.Bits = int(binary.LittleEndian.Uint16([]byte(format[14:])))
	if !goodFormat(m) || modelFormat(m) != format || len(m.Frames)%(m.Channels*m.Bits/8) != 0 {
		return api.Sound{}, api.ErrForm
	}
	return m, api.OK
}

// modelWrite is Write as the chapter tells it.
func modelWrite(m api.Sound) (string, api.Errno) {
	if !goodFormat(m) || len(m.Frames)%(m.Channels*m.Bits/8) != 0 {
		return "", api.ErrArg
	}
	for _, c := range m.More {
		if !goodType(c.Type) || c.Type == "fmt " || c.Type == "data" {
			return "", api.ErrArg
		}
	}
	return raws("WAVE", slices.Concat([]api.Chunk{{Type: "fmt ", Data: modelFormat(m)}, {Type: "data", Data: m.Frames}}, m.More)), api.OK
}

func sameSound(m api.Sound, n api.Sound) bool {
	return m.Channels == n.Channels && m.Rate == n.Rate && m.Bits == n.Bits && m.Frames == n.Frames && slices.Equal(m.More, n.More)
}

// sameSplit holds Split against the model, and joins again what is split.
func sameSplit(t *testing.T, s string) api.Errno {
	t.Helper()
	form, l, e := Split(s)
	wantForm, want, f := modelSplit(s)
	if form != wantForm || !slices.Equal(l, want) || e != f {
		t.Errorf("%.200q: %q, %.200q, %d, not %q, %.200q, %d", s, form, l, e, wantForm, want, f)
	}
	if e == api.OK {
		if again, e := Join(form, l); again != s || e != api.OK { // P19.4
			t.Errorf("%.200q: %.200q, %d", s, again, e)
		}
	}
	return e
}

// sameRead holds Read against the model.
func sameRead(t *testing.T, s string) api.Errno {
	t.Helper()
	m, e := Read(s)
	want, f := modelRead(s)
	if !sameSound(m, want) || e != f || e != api.OK && m.More != nil {
		t.Errorf("%.200q: %.200v, %d, not %.200v, %d", s, m, e, want, f)
	}
	return e
}

// sameWrite holds Write against the model, and reads again what is written.
func sameWrite(t *testing.T, m api.Sound) (string, api.Errno) {
	t.Helper()
	s, e := Write(m)
	want, f := modelWrite(m)
	if s != want || e != f {
		t.Errorf("%.200v: %.200q, %d, not %.200q, %d", m, s, e, want, f)
	}
	if e == api.OK {
		if n, e := Read(s); !sameSound(n, m) || e != api.OK { // P19.4
			t.Errorf("%.200v: %.200v, %d", m, n, e)
		}
	}
	return s, e
}

func noise(random *rand.Rand, n int) string {
	b := make([]byte, n)
	random.Read(b)
	return string(b)
}

// randomType is any type.
func randomType(random *rand.Rand) string {
	b := make([]byte, 4)
	for i := range b {
		b[i] = byte(32 + random.Intn(95))
	}
	return string(b)
}

// randomChunk is one of any type, with Data of any length.
func randomChunk(random *rand.Rand) api.Chunk {
	return api.Chunk{Type: randomType(random), Data: noise(random, random.Intn(20))}
}

// randomSound is a valid one.
func randomSound(random *rand.Rand) api.Sound {
	m := api.Sound{Channels: 1 + random.Intn(16), Rate: 1 + random.Intn(1<<[]int{4, 16, 24}[random.Intn(3)]), Bits: 8 * (1 + random.Intn(4))}
	m.Frames = noise(random, random.Intn(9)*m.Channels*m.Bits/8)
	for range random.Intn(4) {
		c := randomChunk(random)
		if random.Intn(4) == 0 {
			c.Type = []string{"LIST", "fmt_", "FMT ", "DATA", "RIFF", "WAVE"}[random.Intn(6)]
		}
		m.More = append(m.More, c)
	}
	return m
}

// change is s with other bytes from an offset on.
func change(s string, at int, with string) string { return s[:at] + with + s[at+len(with):] }

func octet(c int) string { return string([]byte{byte(c)}) }

// zeros is n bytes 0.
func zeros(n int) string { return strings.Repeat("\x00", n) }
