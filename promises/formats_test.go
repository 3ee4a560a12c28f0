package promises

import (
	"math/rand"
	"reflect"
	"strings"
	"testing"

	"mortise/api"
	"mortise/deflate"
	"mortise/elf"
	"mortise/inflate"
	"mortise/kit"
	"mortise/match"
	"mortise/png"
	"mortise/samples"
	"mortise/sfnt"
	"mortise/tar"
	"mortise/wav"
	"mortise/whole"
	"mortise/zip"
	"mortise/zlib"
)

const enough = 1 << 20

// font is the model of a font.
type font struct {
	kind   uint32
	tables []api.Table
}

// format is one of the six, with files that are mostly not those that are written for their models.
type format struct {
	name  string
	some  func(r *rand.Rand) (string, any)
	read  func(s string) (any, api.Errno)
	write func(m any) (string, api.Errno)
}

func formats() []format {
	return []format{
		{
			"png",
			func(r *rand.Rand) (string, any) { s, l := samples.Png(r.Intn); return s, l },
			func(s string) (any, api.Errno) { l, e := png.Split(s); return l, e },
			func(m any) (string, api.Errno) { return png.Join(m.([]api.Chunk)) },
		},
		{
			"elf",
			func(r *rand.Rand) (string, any) { s, m := samples.ElfFile(r.Intn); return s, m },
			func(s string) (any, api.Errno) { m, e := elf.Read(s); return m, e },
			func(m any) (string, api.Errno) { return elf.Write(m.(api.Elf)) },
		},
		{
			"wav",
			func(r *rand.Rand) (string, any) { s, m := samples.Wav(r.Intn); return s, m },
			func(s string) (any, api.Errno) { m, e := wav.Read(s); return m, e },
			func(m any) (string, api.Errno) { return wav.Write(m.(api.Sound)) },
		},
		{
			"sfnt",
			func(r *rand.Rand) (string, any) { s, k, l := samples.Sfnt(r.Intn); return s, font{k, l} },
			func(s string) (any, api.Errno) { k, l, e := sfnt.Read(s); return font{k, l}, e },
			func(m any) (string, api.Errno) { f := m.(font); return sfnt.Write(f.kind, f.tables) },
		},
		{
			"zip",
			func(r *rand.Rand) (string, any) { s, l := samples.Zip(r.Intn); return s, l },
			func(s string) (any, api.Errno) { l, e := zip.Read(s, enough); return l, e },
			func(m any) (string, api.Errno) { return zip.Write(m.([]api.Member)) },
		},
		{
			"tar",
			func(r *rand.Rand) (string, any) { s, l := samples.Tar(r.Intn); return s, l },
			func(s string) (any, api.Errno) { l, e := tar.Read(s); return l, e },
			func(m any) (string, api.Errno) { return tar.Write(m.([]api.Entry)) },
		},
	}
}

// files are some of each format.
func files(r *rand.Rand) map[string]string {
	all := map[string]string{}
	for _, f := range formats() {
		all[f.name], _ = f.some(r)
	}
	return all
}

func TestP6Formats(t *testing.T) {
	r := rand.New(rand.NewSource(60))
	for range 300 {
		for _, f := range formats() {
			s, want := f.some(r)
			m, e := f.read(s)
			if !reflect.DeepEqual(m, want) || e != api.OK {
				t.Errorf("%s, %.500q: %v, %d, not %v", f.name, s, m, e, want)
				continue
			}
			written, e := f.write(m)
			if e != api.OK {
				t.Errorf("%s, %v: %d", f.name, m, e)
			}
			if n, e := f.read(written); !reflect.DeepEqual(n, want) || e != api.OK {
				t.Errorf("%s, %.500q: %v, %d, not %v", f.name, written, n, e, want)
			}
			// Together they are known by what they begin or end with.
			if again, e := whole.Repack(s, enough); whole.Kind(s) != f.name || again != written || e != api.OK {
				t.Errorf("%s, %.500q: %s, %.500q, %d", f.name, s, whole.Kind(s), again, e)
			}
		}
	}
}

// TestP6Spoiled: what is read of other files, if it is accepted, is written, and read as the same model.
func TestP6Spoiled(t *testing.T) {
	r := rand.New(rand.NewSource(61))
	accepted := map[string]int{}
	for range 1500 {
		for _, f := range formats() {
			s, _ := f.some(r)
			s = spoiled(r, s)
			m, e := f.read(s)
			if e != api.OK {
				continue
			}
			accepted[f.name]++
			written, e := f.write(m)
			if e != api.OK {
				t.Errorf("%s, %.500q: %v, %d", f.name, s, m, e)
			}
			// The bytes of an ELF file's segments may be lost.
			if n, e := f.read(written); (e != api.OK || !reflect.DeepEqual(n, m)) && (f.name != "elf" || e != api.ErrCut) {
				t.Errorf("%s, %.500q: %v, %d, not %v", f.name, s, n, e, m)
			}
		}
	}
	// In a PNG or TAR file, there is no byte to change but in a length.
	for _, name := range []string{"elf", "wav", "sfnt", "zip"} {
		if accepted[name] < 20 {
			t.Errorf("%s: %d were accepted", name, accepted[name])
		}
	}
}

// TestP6Trees: a description says of a file what the package of its format says.
func TestP6Trees(t *testing.T) {
	r := rand.New(rand.NewSource(62))
	for range 300 {
		s, m := samples.ElfFile(r.Intn)
		x, e := kit.Tree("elf", s)
		if e != api.OK {
			t.Fatalf("%v: %d", m, e)
		}
		for i, y := range m.Sections {
			z := x.L[19].L[i+1].L
			if lo, n := z[4].N, z[5].N; y.Type != 8 && s[lo:lo+n] != y.Data || y.Type == 8 && n != uint64(y.Size) {
				t.Errorf("%v: %v", y, z)
			}
		}
		for i, y := range m.Segments {
			if z := x.L[18].L[i].L; z[2].N != uint64(y.Offset) || z[5].N != uint64(y.Filesz) {
				t.Errorf("%v: %v", y, z)
			}
		}
	}
}

// TestP6Contents: deflated data are compared by what they hold.
func TestP6Contents(t *testing.T) {
	r := rand.New(rand.NewSource(63))
	for range 300 {
		s := strings.Repeat(noise(r, r.Intn(5)), r.Intn(200))
		l := match.Find(s)
		fixed, _ := deflate.Fixed(l)
		dynamic, _ := deflate.Dynamic(l)
		for _, d := range []string{deflate.Stored(s), fixed, dynamic, deflate.Deflate(s)} {
			if b, n, e := inflate.Inflate(d+"behind", len(s)); b != s || n != len(d) || e != api.OK {
				t.Errorf("%q: %q, %d, %d", s, b, n, e)
			}
		}
		if s != "" {
			isImage(t, s, r.Intn(len(s)))
		}
	}
}

// isImage holds png.Decode of an image of one column against its pixels, however its rows were deflated, and wherever these data are divided.
func isImage(t *testing.T, pixels string, k int) {
	t.Helper()
	m := api.Image{W: 1, H: len(pixels), Samples: 1, Pixels: pixels}
	s, _ := png.Encode(m)
	l, _ := png.Split(s)
	z := l[1].Data
	rows, _, _ := zlib.Unzip(z, enough)
	stored := "\x78\x01" + deflate.Stored(rows) + z[len(z)-4:]
	again, _ := png.Join([]api.Chunk{l[0], {Type: "IDAT", Data: stored[:k]}, {Type: "IDAT", Data: stored[k:]}, l[2]})
	for _, s := range []string{s, again} {
		if n, e := png.Decode(s); n != m || e != api.OK {
			t.Errorf("%q: %v, %d", pixels, n, e)
		}
	}
}
