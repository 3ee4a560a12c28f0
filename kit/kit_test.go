package kit

import (
	"math/rand"
	"reflect"
	"slices"
	"strings"
	"testing"

	"mortise/api"
	"mortise/check"
	"mortise/desc"
	"mortise/elf"
	"mortise/layout"
	"mortise/parse"
	"mortise/png"
	"mortise/samples"
	"mortise/sfnt"
	"mortise/wav"
	"mortise/win"
)

const noExp = -1

// number is an integer; le and be are its byte orders.
func number(name string, width int, big bool) api.Field {
	return api.Field{Name: name, Kind: api.FInt, Width: width, Big: big, E: noExp}
}

func le(name string, width int) api.Field { return number(name, width, false) }

func be(name string, width int) api.Field { return number(name, width, true) }

func is(f api.Field, n uint64) api.Field {
	f.Is, f.Const = true, n
	return f
}

func computed(f api.Field, auto int, a string, b string) api.Field {
	f.Auto, f.A, f.B = auto, a, b
	return f
}

func array(name string, rec string, e int, at string) api.Field {
	return api.Field{Name: name, Kind: api.FArray, Rec: rec, E: e, At: at}
}

func fill(name string, rec string) api.Field {
	return api.Field{Name: name, Kind: api.FFill, Rec: rec, E: noExp}
}

func text(name string, e int, at string) api.Field {
	return api.Field{Name: name, Kind: api.FBytes, E: e, At: at}
}

func wantElf() api.Desc {
	return api.Desc{
		Recs: []api.Rec{
			{Name: "elf", Fields: []api.Field{
				is(be("a", 4), 0x7f454c46), is(le("class", 1), 2), is(le("order", 1), 1), is(le("version", 1), 1), text("none", 0, ""),
				le("type", 2), le("machine", 2), is(le("v", 4), 1), le("entry", 8),
				computed(le("p", 8), api.AutoAt, "segs", ""), computed(le("s", 8), api.AutoAt, "secs", ""), le("flags", 4),
				is(le("h", 2), 64), is(le("pe", 2), 56), computed(le("pn", 2), api.AutoCount, "segs", ""), is(le("se", 2), 64), computed(le("sn", 2), api.AutoCount, "secs", ""), le("names", 2),
				array("segs", "seg", 1, "p"), array("secs", "sec", 2, "s"),
			}},
			{Name: "seg", Fields: []api.Field{le("type", 4), le("flags", 4), le("offset0", 8), le("vaddr", 8), le("paddr", 8), le("filesz", 8), le("memsz", 8), le("align0", 8)}},
			{Name: "sec", Fields: []api.Field{le("name", 4), le("type", 4), le("flags", 8), le("addr", 8), le("offset0", 8), le("size0", 8), le("link", 4), le("info", 4), le("align0", 8), le("each", 8)}},
		},
		Exps: []api.Exp{{N: 9}, {Name: "pn"}, {Name: "sn"}},
	}
}

func wantPng() api.Desc {
	return api.Desc{
		Recs: []api.Rec{
			{Name: "png", Fields: []api.Field{is(be("a", 4), 0x89504e47), is(be("b", 4), 0x0d0a1a0a), fill("chunks", "chunk")}},
			{Name: "chunk", Fields: []api.Field{computed(be("n", 4), api.AutoSize, "data", ""), be("t", 4), text("data", 0, ""), computed(be("sum", 4), api.AutoCrc, "t", "data")}},
		},
		Exps: []api.Exp{{Name: "n"}},
	}
}

func wantSfnt() api.Desc {
	return api.Desc{
		Recs: []api.Rec{
			{Name: "font", Fields: []api.Field{be("kind", 4), computed(be("n", 2), api.AutoCount, "tables", ""), be("a", 2), be("b", 2), be("c", 2), array("tables", "table", 0, "")}},
			{Name: "table", Fields: []api.Field{be("tag", 4), be("sum", 4), computed(be("p", 4), api.AutoAt, "data", ""), computed(be("len", 4), api.AutoSize, "data", ""), text("data", 1, "p")}},
		},
		Exps: []api.Exp{{Name: "n"}, {Name: "len"}},
	}
}

func wantWav() api.Desc {
	return api.Desc{
		Recs: []api.Rec{
			{Name: "riff", Fields: []api.Field{is(be("a", 4), 0x52494646), le("n", 4), be("form", 4), fill("chunks", "part")}},
			{Name: "part", Fields: []api.Field{be("t", 4), computed(le("n", 4), api.AutoSize, "data", ""), text("data", 0, ""), text("pad", 3, "")}},
		},
		Exps: []api.Exp{{Name: "n"}, {Name: "n"}, {N: 2}, {Op: "%", L: 1, R: 2}},
	}
}

// wanted are the descriptions as chapter 23 tells them, by their names.
func wanted() map[string]api.Desc {
	return map[string]api.Desc{"elf": wantElf(), "png": wantPng(), "sfnt": wantSfnt(), "wav": wantWav()}
}

// TestP23_2Limit: 2^30 bytes may be placed, and no more. All these nodes are refused, so that no such string is made. It comes first, as memory that was never in use need not be cleared.
func TestP23_2Limit(t *testing.T) {
	const most = 1 << 30
	long := strings.Repeat("x", 1<<20)
	part := func(s string) api.Node { return api.Node{L: []api.Node{{}, {}, {S: s}, {}}} }
	var l []api.Node
	n := 12
	for most-n > len(long)+16 {
		l = append(l, part(long))
		n += 8 + len(long)
	}
	l = append(l, part(long[:most-n-8]))
	l[0].L[0].N = 1 << 32 // does not fit
	v := api.Node{L: []api.Node{{N: 0x52494646}, {}, {}, {L: l}}}
	if s, e := Bytes("wav", v); s != "" || e != api.ErrField {
		t.Errorf("%d bytes, %d", len(s), e)
	}
	l[len(l)-1].L[2].S += "x"
	if s, e := Bytes("wav", v); s != "" || e != api.ErrLimit {
		t.Errorf("%d bytes, %d", len(s), e)
	}
}

func TestP23_1Names(t *testing.T) {
	want := []string{"elf", "png", "sfnt", "wav"}
	for range 2 {
		l := Names()
		if !slices.Equal(l, want) {
			t.Errorf("%q", l)
		}
		_ = append(l, "more")
		clear(l) // R5: what is returned next is new memory
	}
}

// TestP23_1Texts: they have the form that descriptions are printed in, as the chapter does.
func TestP23_1Texts(t *testing.T) {
	for name, d := range wanted() {
		want, e := desc.Print(d)
		if e != api.OK {
			t.Fatalf("%s: %d", name, e)
		}
		if s, e := Text(name); s != want || e != api.OK {
			t.Errorf("%s: %s, %d, not %s", name, s, e, want)
		}
	}
}

func TestP23_1Descriptions(t *testing.T) {
	for name, want := range wanted() {
		for range 2 {
			d, e := Desc(name)
			if !reflect.DeepEqual(d, want) || e != api.OK {
				t.Errorf("%s: %v, %d, not %v", name, d, e, want)
			}
			// R5: what is returned next is new memory.
			clear(d.Exps)
			for _, r := range d.Recs {
				clear(r.Fields)
			}
			clear(d.Recs)
		}
	}
}

func TestP23_1OtherNames(t *testing.T) {
	good, _ := png.Join([]api.Chunk{{Type: "IEND"}})
	for _, name := range []string{"", "tar", "zip", "riff", "font", "PNG", "Png", "pn", "pngs", " png", "png ", "png\x00", "elf,png", "elfpngsfntwav"} {
		if s, e := Text(name); s != "" || e != api.ErrArg {
			t.Errorf("%q: %q, %d", name, s, e)
		}
		if d, e := Desc(name); d.Recs != nil || d.Exps != nil || e != api.ErrArg {
			t.Errorf("%q: %v, %d", name, d, e)
		}
		for _, s := range []string{"", good} {
			if x, e := Tree(name, s); x.N != 0 || x.S != "" || x.L != nil || e != api.ErrArg {
				t.Errorf("%q: %v, %d", name, x, e)
			}
			if s, e := Bytes(name, api.Node{S: s}); s != "" || e != api.ErrArg {
				t.Errorf("%q: %q, %d", name, s, e)
			}
		}
	}
}

// files are some of each kind, by the names of descriptions.
func files(r *rand.Rand) map[string]string {
	font, _, _ := samples.Sfnt(r.Intn)
	scattered, _ := samples.ElfFile(r.Intn)
	picture, _ := samples.Png(r.Intn)
	sound, _ := samples.Wav(r.Intn)
	return map[string]string{"elf": scattered, "png": picture, "sfnt": font, "wav": sound}
}

// spoiled is s with some bytes changed, cut, or added.
func spoiled(r *rand.Rand, s string) string {
	b := []byte(s)
	switch k := r.Intn(len(b) + 1); r.Intn(4) {
	case 0:
		b = b[:k]
	case 1:
		b = slices.Insert(b, k, byte(r.Intn(256)))
	default:
		for range 1 + r.Intn(2) {
			b[r.Intn(min(len(b), 100))] = byte(r.Intn(256))
		}
	}
	return string(b)
}

// sameTree holds Tree against parse.Parse, and returns what that returns.
func sameTree(t *testing.T, name string, s string) (api.Node, api.Errno) {
	t.Helper()
	want, _, f := parse.Parse(wanted()[name], s, 100000)
	x, e := Tree(name, s)
	if !reflect.DeepEqual(x, want) || e != f {
		t.Errorf("%s, %.500q: %v, %d, not %v, %d", name, s, x, e, want, f)
	}
	return want, f
}

// sameBytes holds Bytes against layout.Layout, and returns what that returns.
func sameBytes(t *testing.T, name string, v api.Node) (string, api.Errno) {
	t.Helper()
	want, _, f := layout.Layout(wanted()[name], v, 1<<30)
	s, e := Bytes(name, v)
	if s != want || e != f {
		t.Errorf("%s, %v: %.500q, %d, not %.500q, %d", name, v, s, e, want, f)
	}
	return want, f
}

func TestP23_2Random(t *testing.T) {
	random := rand.New(rand.NewSource(232))
	read, written := map[api.Errno]int{}, map[api.Errno]int{}
	for range 300 {
		for name, s := range files(random) {
			x, e := sameTree(t, name, s)
			if e != api.OK {
				t.Errorf("%s, %.500q: %d", name, s, e)
			}
			sameBytes(t, name, x)
			for range 10 {
				_, e := sameTree(t, name, spoiled(random, s))
				read[e]++
				_, e = sameBytes(t, name, changed(random, x))
				written[e]++
			}
		}
	}
	for _, e := range []api.Errno{api.OK, api.ErrCut, api.ErrForm, api.ErrSum, api.ErrOverlap} {
		if read[e] < 20 {
			t.Errorf("read: error %d: %d times", e, read[e])
		}
	}
	for _, e := range []api.Errno{api.OK, api.ErrType, api.ErrField} {
		if written[e] < 20 {
			t.Errorf("written: error %d: %d times", e, written[e])
		}
	}
}

// changed is a node of which one part is another one.
func changed(r *rand.Rand, v api.Node) api.Node {
	v = api.Node{N: v.N, S: v.S, L: slices.Clone(v.L)}
	if len(v.L) > 0 && r.Intn(4) > 0 {
		i := r.Intn(len(v.L))
		v.L[i] = changed(r, v.L[i])
		return v
	}
	switch r.Intn(4) {
	case 0:
		v.N = 1 << r.Intn(64)
	case 1:
		v.S += "x"
	case 2:
		v.L = append(v.L, api.Node{})
	default:
		v.N, v.S, v.L = 7, "", nil
	}
	return v
}

// manyChunks is a PNG file of n chunks without Data.
func manyChunks(n int) string {
	l := make([]api.Chunk, n)
	for i := range l {
		l[i].Type = "abCd"
	}
	l[n-1].Type = "IEND"
	s, _ := png.Join(l)
	return s
}

// manyParts is a RIFF file of n chunks, each with one byte.
func manyParts(n int) string {
	l := make([]api.Chunk, n)
	for i := range l {
		l[i] = api.Chunk{Type: "abcd", Data: "x"}
	}
	s, _ := wav.Join("form", l)
	return s
}

// TestP23_2Fuel: for each chunk, it is spent five times.
func TestP23_2Fuel(t *testing.T) {
	for _, c := range []struct {
		name string
		s    string
		at   int
		n    int
		e    api.Errno
	}{
		{"png", manyChunks(16000), 2, 16000, api.OK},
		{"png", manyChunks(19999), 2, 19999, api.OK},
		{"png", manyChunks(20000), 0, 0, api.ErrFuel},
		// Ahead of the next number, the fuel is just enough; behind it, it is used up.
		{"png", manyChunks(19999) + "xx", 0, 0, api.ErrCut},
		{"png", manyChunks(19999) + "xxxx", 0, 0, api.ErrFuel},
		{"wav", manyParts(16000), 3, 16000, api.OK},
		{"wav", manyParts(19999), 3, 19999, api.OK},
		{"wav", manyParts(20000), 0, 0, api.ErrFuel},
	} {
		x, e := Tree(c.name, c.s)
		if e != c.e || e == api.OK && len(x.L[c.at].L) != c.n || e != api.OK && x.L != nil {
			t.Errorf("%s, %d: %d", c.name, c.n, e)
			continue
		}
		if e != api.OK {
			continue
		}
		if s, e := Bytes(c.name, x); s != c.s || e != api.OK { // P23.3
			t.Errorf("%s, %d: %d bytes, %d", c.name, c.n, len(s), e)
		}
	}
}

func TestP23_3Valid(t *testing.T) {
	for _, name := range Names() {
		d, e := Desc(name)
		if e != api.OK || check.Check(d) != api.OK {
			t.Errorf("%s: %d", name, e)
		}
	}
}

// word is the number of a type.
func word(s string) uint64 {
	n, _ := win.Of(s).Uint(0, 4, true)
	return n
}

// holds tells whether a node has a node for each chunk, with the place of its type and its Data.
func holds(x api.Node, l []api.Chunk, kind int) bool {
	if len(x.L) != len(l) {
		return false
	}
	for i, c := range l {
		if y := x.L[i].L; len(y) != 4 || y[kind].N != word(c.Type) || y[2].S != c.Data {
			return false
		}
	}
	return true
}

func TestP23_3Chunks(t *testing.T) {
	random := rand.New(rand.NewSource(233))
	for range 500 {
		l := samples.Chunks(random.Intn)
		s, _ := wav.Join("form", l)
		x, e := Tree("wav", s)
		if e != api.OK || len(x.L) != 4 || x.L[2].N != word("form") || !holds(x.L[3], l, 0) {
			t.Errorf("%v: %v, %d", l, x, e)
		}
		if b, e := Bytes("wav", x); b != s || e != api.OK {
			t.Errorf("%v: %q, %d, not %q", l, b, e, s)
		}
		s, l = samples.Png(random.Intn)
		x, e = Tree("png", s)
		if e != api.OK || len(x.L) != 3 || !holds(x.L[2], l, 1) {
			t.Errorf("%v: %v, %d", l, x, e)
		}
		if b, e := Bytes("png", x); b != s || e != api.OK {
			t.Errorf("%v: %q, %d, not %q", l, b, e, s)
		}
	}
}

// TestP23_3Accepted: what is spoiled is accepted as far as the packages of the formats accept it.
func TestP23_3Accepted(t *testing.T) {
	random := rand.New(rand.NewSource(234))
	accepts := map[string]func(s string) api.Errno{
		"png":  func(s string) api.Errno { _, e := png.Split(s); return e },
		"wav":  func(s string) api.Errno { _, _, e := wav.Split(s); return e },
		"sfnt": func(s string) api.Errno { _, _, e := sfnt.Read(s); return e },
	}
	n := 0
	for range 1500 {
		all := files(random)
		for name, accept := range accepts {
			s := spoiled(random, all[name])
			if accept(s) != api.OK {
				continue
			}
			n++
			if _, e := Tree(name, s); e != api.OK {
				t.Errorf("%s, %q: %d", name, s, e)
			}
		}
	}
	if n < 100 {
		t.Errorf("%d were accepted", n)
	}
}

func TestP23_3Fonts(t *testing.T) {
	random := rand.New(rand.NewSource(235))
	empty, odd := 0, 0
	for range 1000 {
		s, kind, l := samples.Sfnt(random.Intn)
		x, e := Tree("sfnt", s)
		if e != api.OK || len(x.L) != 6 || x.L[0].N != uint64(kind) || len(x.L[5].L) != len(l) {
			t.Fatalf("%q: %v, %d", s, x, e)
		}
		for i, y := range l {
			z := x.L[5].L[i].L
			if len(z) != 5 || z[0].N != word(y.Tag) || z[4].S != y.Data {
				t.Errorf("%q: %v", s, z)
			}
			if y.Data == "" {
				empty++
			}
			if len(y.Data)%4 != 0 {
				odd++
			}
		}
	}
	if empty < 50 || odd < 200 {
		t.Errorf("%d, %d", empty, odd)
	}
	// Data without bytes may begin anywhere, also at the end and on other bytes.
	one, _ := sfnt.Write(0x00010000, []api.Table{{Tag: "abcd"}})
	for at := 0; at <= 32; at += 4 {
		s := one[:20] + "\x00\x00\x00" + string([]byte{byte(at)}) + one[24:]
		_, _, e := sfnt.Read(s)
		_, f := Tree("sfnt", s)
		want := api.OK
		if at > 28 {
			want = api.ErrCut
		}
		if e != want || f != want {
			t.Errorf("%d: %d, %d", at, e, f)
		}
	}
	most := make([]api.Table, 1000)
	for i := range most {
		most[i] = api.Table{Tag: string([]byte{byte('a' + i/100), byte('a' + i/10%10), byte('a' + i%10), ' '}), Data: "xyz"}
	}
	s, _ := sfnt.Write(0x4f54544f, most)
	if x, e := Tree("sfnt", s); e != api.OK || len(x.L[5].L) != 1000 || x.L[5].L[999].L[4].S != "xyz" {
		t.Error(e)
	}
}

func TestP23_3Elf(t *testing.T) {
	random := rand.New(rand.NewSource(236))
	models := []api.Elf{{}, {Segments: make([]api.Segment, 1000), Sections: make([]api.Section, 1000)}, {Segments: make([]api.Segment, 1)}}
	for range 500 {
		models = append(models, samples.Elf(random.Intn))
	}
	for _, m := range models {
		s, e := elf.Write(m)
		if e != api.OK {
			t.Fatalf("%v: %d", m, e)
		}
		x, e := Tree("elf", s)
		if e != api.OK || len(x.L) != 20 || len(x.L[18].L) != len(m.Segments) || len(x.L[19].L) != len(m.Sections)+2 {
			t.Fatalf("%v: %v, %d", m, x, e)
		}
		if x.L[5].N != uint64(m.Type) || x.L[6].N != uint64(m.Machine) || x.L[8].N != m.Entry || x.L[11].N != uint64(m.Flags) {
			t.Errorf("%v: %v", m, x)
		}
		for i, y := range m.Segments {
			if z := x.L[18].L[i].L; z[0].N != uint64(y.Type) || z[3].N != y.Vaddr || z[7].N != y.Align {
				t.Errorf("%v: %v", y, z)
			}
		}
		for i, y := range m.Sections {
			if z := x.L[19].L[i+1].L; z[1].N != uint64(y.Type) || z[2].N != y.Flags || z[5].N != uint64(len(y.Data)+y.Size) || z[9].N != y.Each {
				t.Errorf("%v: %v", y, z)
			}
		}
	}
}

// TestR5Memory: arguments stay as they are, and results are new memory.
func TestR5Memory(t *testing.T) {
	random := rand.New(rand.NewSource(237))
	for range 50 {
		for name, s := range files(random) {
			x, _ := Tree(name, s)
			want, _ := Tree(name, s)
			b, _ := Bytes(name, x)
			if !reflect.DeepEqual(x, want) {
				t.Errorf("%s: %v, not %v", name, x, want)
			}
			wipe(x)
			if y, e := Tree(name, s); !reflect.DeepEqual(y, want) || e != api.OK {
				t.Errorf("%s: %v, %d, not %v", name, y, e, want)
			}
			if again, e := Bytes(name, want); again != b || e != api.OK {
				t.Errorf("%s: %q, %d, not %q", name, again, e, b)
			}
		}
	}
}

// wipe changes all lists of a node, with their spare capacity.
func wipe(x api.Node) {
	for _, y := range x.L {
		wipe(y)
	}
	l := x.L[:cap(x.L)]
	for i := range l {
		l[i] = api.Node{N: 99}
	}
}

func TestExamplesOfTheChapter(t *testing.T) {
	x, e := Tree("png", "\x89PNG\r\n\x1a\n")
	if e != api.OK || len(x.L) != 3 || x.L[0].N != 2303741511 || x.L[1].N != 218765834 || x.L[2].N != 0 || len(x.L[2].L) != 0 {
		t.Errorf("%v, %d", x, e)
	}
}
