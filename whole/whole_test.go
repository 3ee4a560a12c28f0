package whole

import (
	"bytes"
	"math"
	"math/rand"
	"strings"
	"testing"
	"unsafe"

	"mortise/api"
	"mortise/elf"
	"mortise/png"
	"mortise/samples"
	"mortise/sfnt"
	"mortise/tar"
	"mortise/wav"
	"mortise/zip"
)

const enough = 1 << 20

// modelKind is Kind as the chapter tells it.
func modelKind(s string) string {
	b := []byte(s)
	begins := func(first ...byte) bool { return bytes.HasPrefix(b, first) }
	switch n := len(b); {
	case begins(0x89, 0x50, 0x4e, 0x47):
		return "png"
	case begins(0x7f, 0x45, 0x4c, 0x46):
		return "elf"
	case begins('R', 'I', 'F', 'F'):
		return "wav"
	case begins(0, 1, 0, 0), begins('O', 'T', 'T', 'O'):
		return "sfnt"
	case n >= 22 && bytes.Equal(b[n-22:n-18], []byte{0x50, 0x4b, 0x05, 0x06}):
		return "zip"
	case n >= 512 && (string(b[257:262]) == "ustar" || bytes.Equal(b[:512], make([]byte, 512))):
		return "tar"
	}
	return ""
}

func isKind(t *testing.T, s string, want string) {
	t.Helper()
	if k := Kind(s); k != want {
		t.Errorf("%.600q: %q, not %q", s, k, want)
	}
	if k := modelKind(s); k != want {
		t.Errorf("%.600q: by the model %q, not %q", s, k, want)
	}
}

func zeros(n int) string { return strings.Repeat("\x00", n) }

// firsts are what files begin with, with their kinds.
func firsts() map[string]string {
	return map[string]string{"\x89PNG": "png", "\x7fELF": "elf", "RIFF": "wav", "\x00\x01\x00\x00": "sfnt", "OTTO": "sfnt"}
}

func TestP24_1Beginnings(t *testing.T) {
	for first, kind := range firsts() {
		isKind(t, first, kind)
		for _, more := range []string{"x", "\r\n", zeros(18), zeros(600), strings.Repeat("x", 253) + "ustar" + zeros(500), "PK\x05\x06" + zeros(18)} {
			isKind(t, first+more, kind)
		}
		isKind(t, "x"+first, "")
		for i := range first {
			isKind(t, first[:i], "")
			for c := range 256 {
				if s := first[:i] + string([]byte{byte(c)}) + first[i+1:]; s != first {
					isKind(t, s, "")
				}
			}
		}
	}
}

func TestP24_1Zip(t *testing.T) {
	end := "PK\x05\x06"
	for n := range 40 {
		for before := range 30 {
			want := ""
			if n == 18 {
				want = "zip"
			}
			isKind(t, strings.Repeat("x", before)+end+strings.Repeat("z", n), want)
		}
	}
	for i := range end {
		isKind(t, end[:i]+"x"+end[i+1:]+zeros(18), "")
	}
	// What is a TAR archive, too, is a ZIP archive.
	isKind(t, strings.Repeat("x", 257)+"ustar"+zeros(300)+end+zeros(18), "zip")
	isKind(t, zeros(512)+end+zeros(18), "zip")
	isKind(t, zeros(490)+end+zeros(18), "zip")
	isKind(t, end+zeros(600), "")
}

func TestP24_1Tar(t *testing.T) {
	for n := 262; n < 600; n++ {
		want := ""
		if n >= 512 {
			want = "tar"
		}
		isKind(t, strings.Repeat("x", 257)+"ustar"+strings.Repeat("x", n-262), want)
		isKind(t, zeros(n), want)
	}
	for at := range 507 {
		want := ""
		if at == 257 {
			want = "tar"
		}
		isKind(t, strings.Repeat("x", at)+"ustar"+strings.Repeat("x", 507-at), want)
		isKind(t, zeros(at)+"ustar"+zeros(507-at), want)
	}
	for at := range 600 {
		want := ""
		if at >= 512 {
			want = "tar"
		}
		isKind(t, zeros(at)+"x"+zeros(599-at), want)
	}
	for i := range 5 {
		isKind(t, strings.Repeat("x", 257)+"ustar"[:i]+"X"+"ustar"[i+1:]+strings.Repeat("x", 250), "")
	}
}

func TestP24_1Random(t *testing.T) {
	random := rand.New(rand.NewSource(241))
	seen := map[string]int{}
	for range 20000 {
		b := make([]byte, random.Intn(540))
		if random.Intn(2) == 0 {
			random.Read(b)
		}
		marks := []string{"\x89PNG", "\x7fELF", "RIFF", "\x00\x01\x00\x00", "OTTO", "PK\x05\x06", "ustar", "x"}
		for _, at := range []int{0, 257, len(b) - 22} {
			if at >= 0 && at < len(b) && random.Intn(2) == 0 {
				copy(b[at:], marks[random.Intn(len(marks))])
			}
		}
		k := Kind(string(b))
		if k != modelKind(string(b)) {
			t.Errorf("%q: %q", b, k)
		}
		seen[k]++
	}
	for _, k := range []string{"", "png", "elf", "wav", "sfnt", "zip", "tar"} {
		if seen[k] < 100 {
			t.Errorf("%q: %d times", k, seen[k])
		}
	}
}

// again is what Repack should return for a file of this kind.
func again(kind string, s string, limit int) (string, api.Errno) {
	var e api.Errno
	written := func(s string, f api.Errno) (string, api.Errno) {
		if e != api.OK {
			return "", e
		}
		return s, f
	}
	switch kind {
	case "png":
		var l []api.Chunk
		l, e = png.Split(s)
		return written(png.Join(l))
	case "elf":
		var m api.Elf
		m, e = elf.Read(s)
		return written(elf.Write(m))
	case "wav":
		var m api.Sound
		m, e = wav.Read(s)
		return written(wav.Write(m))
	case "sfnt":
		var k uint32
		var l []api.Table
		k, l, e = sfnt.Read(s)
		return written(sfnt.Write(k, l))
	case "zip":
		var l []api.Member
		l, e = zip.Read(s, limit)
		return written(zip.Write(l))
	case "tar":
		var l []api.Entry
		l, e = tar.Read(s)
		return written(tar.Write(l))
	}
	return "", api.ErrForm
}

// same holds Check and Repack against the packages of the formats, and returns what the latter returns.
func same(t *testing.T, s string, limit int) (string, api.Errno) {
	t.Helper()
	want, f := again(modelKind(s), s, limit)
	for range 2 { // R6
		if e := Check(s, limit); e != f {
			t.Errorf("%.600q, %d: %d, not %d", s, limit, e, f)
		}
		if b, e := Repack(s, limit); b != want || e != f {
			t.Errorf("%.600q, %d: %.600q, %d, not %.600q, %d", s, limit, b, e, want, f)
		}
	}
	return want, f
}

// file is one of any format, be it written or made otherwise.
func file(r *rand.Rand) string {
	s := ""
	switch r.Intn(6) {
	case 0:
		s, _ = samples.Png(r.Intn)
	case 1:
		s, _ = samples.ElfFile(r.Intn)
	case 2:
		s, _ = samples.Wav(r.Intn)
	case 3:
		s, _, _ = samples.Sfnt(r.Intn)
	case 4:
		s, _ = samples.Zip(r.Intn)
	case 5:
		s, _ = samples.Tar(r.Intn)
	}
	return s
}

func TestP24_2Limits(t *testing.T) {
	good, _ := zip.Write([]api.Member{{Name: "a", Data: "hello"}, {Name: "b", Method: 8, Data: "hello"}})
	picture, _ := png.Join([]api.Chunk{{Type: "IEND"}})
	for _, limit := range []int{-1, math.MinInt, 1<<30 + 1, 1 << 31, 1<<32 + 5, math.MaxInt} {
		for _, s := range []string{"", "zzz", good, picture, zeros(1024), picture[:20]} { // R2: the limit is asked first
			if e := Check(s, limit); e != api.ErrArg {
				t.Errorf("%q, %d: %d", s, limit, e)
			}
			if b, e := Repack(s, limit); b != "" || e != api.ErrArg {
				t.Errorf("%q, %d: %q, %d", s, limit, b, e)
			}
		}
	}
	for limit, want := range map[int]api.Errno{0: api.ErrLimit, 9: api.ErrLimit, 10: api.OK, 11: api.OK, 1<<30 - 1: api.OK, 1 << 30: api.OK} {
		if _, e := same(t, good, limit); e != want {
			t.Errorf("%d: %d, not %d", limit, e, want)
		}
		// It bounds archives of this format only.
		for _, s := range []string{picture, zeros(1024)} {
			if _, e := same(t, s, limit); e != api.OK {
				t.Errorf("%q, %d: %d", s, limit, e)
			}
		}
	}
}

func TestP24_2NoKind(t *testing.T) {
	for _, s := range []string{"", "zzz", "RIFX", "PK\x03\x04", zeros(511), "PK\x05\x06" + zeros(17), "GIF89a"} {
		if e := Check(s, 1); e != api.ErrForm {
			t.Errorf("%q: %d", s, e)
		}
		if b, e := Repack(s, 1); b != "" || e != api.ErrForm {
			t.Errorf("%q: %q, %d", s, b, e)
		}
	}
}

// TestP24_2Beginnings: what only begins like a file is refused by the package of its format.
func TestP24_2Beginnings(t *testing.T) {
	for first := range firsts() {
		for _, more := range []string{"", "x", strings.Repeat("x", 100), zeros(1000)} {
			if _, e := same(t, first+more, enough); e == api.OK {
				t.Errorf("%q", first+more)
			}
		}
	}
	for _, s := range []string{"PK\x05\x06" + strings.Repeat("x", 18), strings.Repeat("x", 257) + "ustar" + strings.Repeat("x", 800), zeros(512), zeros(1025)} {
		if _, e := same(t, s, enough); e == api.OK {
			t.Errorf("%q", s)
		}
	}
}

// TestP24_3Spoiled: the errors are those of the packages of the formats.
func TestP24_3Spoiled(t *testing.T) {
	random := rand.New(rand.NewSource(243))
	seen := map[string]map[api.Errno]int{}
	for range 4000 {
		b := []byte(file(random))
		for range random.Intn(4) {
			b[random.Intn(min(len(b), 800))] = byte(random.Intn(256))
		}
		if random.Intn(8) == 0 {
			b = b[:random.Intn(len(b))]
		}
		limit := enough
		if random.Intn(4) == 0 {
			limit = random.Intn(100)
		}
		_, e := same(t, string(b), limit)
		k := Kind(string(b))
		if seen[k] == nil {
			seen[k] = map[api.Errno]int{}
		}
		seen[k][e]++
	}
	for k, errors := range map[string][]api.Errno{
		"": {api.ErrForm}, "png": {api.OK, api.ErrCut, api.ErrForm, api.ErrSum}, "elf": {api.OK, api.ErrCut, api.ErrForm}, "wav": {api.OK, api.ErrCut, api.ErrForm},
		"sfnt": {api.OK, api.ErrCut, api.ErrForm, api.ErrSum}, "zip": {api.OK, api.ErrCut, api.ErrForm, api.ErrSum, api.ErrLimit}, "tar": {api.OK, api.ErrCut, api.ErrForm, api.ErrSum},
	} {
		for _, e := range errors {
			if seen[k][e] < 3 {
				t.Errorf("%q: error %d: %d times", k, e, seen[k][e])
			}
		}
	}
}

// TestP24_4Repacked: what is repacked has the same kind, is accepted, and stays the same.
func TestP24_4Repacked(t *testing.T) {
	random := rand.New(rand.NewSource(244))
	other := map[string]int{}
	for range 3000 {
		s := file(random)
		kind := Kind(s)
		once, e := same(t, s, enough)
		if kind == "" || e != api.OK || Kind(once) != kind {
			t.Fatalf("%.600q: %q, %d, then %q", s, kind, e, Kind(once))
		}
		if twice, e := same(t, once, enough); twice != once || e != api.OK {
			t.Errorf("%.600q: %.600q, %d, not %.600q", s, twice, e, once)
		}
		if once != s {
			other[kind]++
		}
	}
	for _, k := range []string{"elf", "wav", "sfnt", "zip", "tar"} {
		if other[k] < 50 {
			t.Errorf("%s: %d were changed", k, other[k])
		}
	}
	if other["png"] != 0 {
		t.Errorf("%d PNG files were changed", other["png"])
	}
}

// TestP24_4Elf: bytes of a segment that belong to no section are not in the repacked file.
func TestP24_4Elf(t *testing.T) {
	s, _ := elf.Write(api.Elf{Segments: []api.Segment{{Offset: 300, Filesz: 20}}})
	s += zeros(400)
	once, e := same(t, s, enough)
	if e != api.OK || Kind(once) != "elf" || len(once) >= 320 {
		t.Errorf("%d bytes, %d", len(once), e)
	}
	if _, e := same(t, once, enough); e != api.ErrCut {
		t.Error(e)
	}
}

// TestP24_4Tar: where the first Name begins like a file of another kind, the archive is taken for one.
func TestP24_4Tar(t *testing.T) {
	for name, want := range map[string]string{"RIFFx": "wav", "OTTO": "sfnt", "\x89PNG": "png", "\x7fELF/a": "elf", "RIF": "tar", "xRIFF": "tar"} {
		s, _ := tar.Write([]api.Entry{{Name: name, Type: '0'}})
		isKind(t, s, want)
		if _, e := same(t, s, enough); (e == api.OK) != (want == "tar") {
			t.Errorf("%q: %d", name, e)
		}
		// Behind another one, it may begin so.
		s, _ = tar.Write([]api.Entry{{Name: "a", Type: '0'}, {Name: name, Type: '0'}})
		if once, e := same(t, s, enough); once != s || e != api.OK {
			t.Errorf("%q: %d", name, e)
		}
	}
}

// TestR5Memory: what is returned stays as it is if the bytes of the argument become others.
func TestR5Memory(t *testing.T) {
	random := rand.New(rand.NewSource(245))
	for range 300 {
		s := file(random)
		b := []byte(s)
		got, e := Repack(unsafe.String(&b[0], len(b)), enough)
		clear(b)
		if want, f := Repack(s, enough); got != want || e != f {
			t.Errorf("%.600q: %.600q, %d, not %.600q, %d", s, got, e, want, f)
		}
	}
}

func TestExamplesOfTheChapter(t *testing.T) {
	isKind(t, "RIFF", "wav")
	if e := Check("RIFF", 0); e != api.ErrCut {
		t.Error(e)
	}
}
