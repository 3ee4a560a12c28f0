package promises

import (
	"encoding/binary"
	"math"
	"math/rand"
	"reflect"
	"slices"
	"strings"
	"testing"

	"mortise/api"
	"mortise/kit"
	"mortise/layout"
	"mortise/lazy"
	"mortise/parse"
	"mortise/src"
	"mortise/sums"
	"mortise/whole"
	"mortise/win"
)

// isStored holds the regions against the parts of what was read.
func isStored(t *testing.T, d api.Desc, b string, x api.Node, l []api.Region) {
	t.Helper()
	end, filling := 0, 0
	for _, g := range l {
		if g.Lo < end || g.Lo >= g.Hi || g.Hi > len(b) { // P3
			t.Errorf("%q: %v", b, l)
		}
		end = g.Hi
	}
	for _, p := range parts(d, &x) {
		var own []api.Region
		for _, g := range l {
			if slices.Equal(g.Path, p.path) {
				own = append(own, g)
			}
		}
		if p.field.Kind == api.FAlign {
			filling += len(own)
			continue
		}
		if len(own) != p.stored() {
			t.Errorf("%q, %v: %v", b, p.path, own)
			continue
		}
		for _, g := range own {
			s := p.node.S
			if p.field.Kind == api.FInt {
				s, _ = win.Bytes(p.node.N, p.field.Width, p.field.Big)
			}
			if b[g.Lo:g.Hi] != s {
				t.Errorf("%q, %v: %v", b, p.path, own)
			}
		}
		filling += len(own)
	}
	if filling != len(l) {
		t.Errorf("%q: %v", b, l)
	}
}

func TestP1Reading(t *testing.T) {
	r := rand.New(rand.NewSource(1))
	seen := map[api.Errno]int{}
	for range 1000 {
		p := random(r)
		for _, b := range []string{p.b, p.moved(r), spoiled(r, p.b), spoiled(r, spoiled(r, p.b))} {
			x, l, e := parse.Parse(p.d, b, api.MaxFuel)
			seen[e]++
			if e == api.OK {
				isStored(t, p.d, b, x, l)
			}
			// With less fuel, the result is ErrFuel, from some fuel on it is this one.
			enough := false
			for fuel := 0; fuel < 400 && !(enough && r.Intn(4) == 0); fuel++ {
				y, k, f := parse.Parse(p.d, b, fuel)
				if f == api.ErrFuel && !enough {
					continue
				}
				enough = true
				if f != e || !reflect.DeepEqual(x, y) || !reflect.DeepEqual(l, k) {
					t.Errorf("%q, %d: %v, %d, not %v, %d", b, fuel, y, f, x, e)
				}
			}
		}
	}
	for _, e := range []api.Errno{api.OK, api.ErrCut, api.ErrForm, api.ErrSum, api.ErrOverlap} {
		if seen[e] < 20 {
			t.Errorf("error %d: %d times", e, seen[e])
		}
	}
}

// fitting tells whether all numbers that are written as they are fit into their fields.
func fitting(d api.Desc, v *api.Node) bool {
	return !slices.ContainsFunc(parts(d, v), func(p part) bool {
		f := p.field
		return f.Kind == api.FInt && f.Auto == api.AutoNone && f.Width < 8 && p.node.N>>(8*f.Width) != 0
	})
}

func TestP2Writing(t *testing.T) {
	r := rand.New(rand.NewSource(2))
	for range 1000 {
		p := random(r)
		b, l, e := layout.Layout(p.d, p.v, len(p.b))
		if b != p.b || e != api.OK || !fitting(p.d, &p.v) {
			t.Errorf("%v: %q, %d, not %q", p.v, b, e, p.b)
		}
		if len(p.b) > 0 {
			_, _, e = layout.Layout(p.d, p.v, len(p.b)-1)
			isError(t, e, api.ErrLimit)
		}
		x, k, e := parse.Parse(p.d, b, api.MaxFuel)
		if e != api.OK || !reflect.DeepEqual(k, l) {
			t.Errorf("%v: %v, %d, not %v", p.v, k, e, l)
			continue
		}
		isStored(t, p.d, b, x, l)
		// Only computed numbers are others, and these may be anything.
		want := parts(p.d, &p.v)
		for i, y := range parts(p.d, &x) {
			v := want[i]
			if y.field.Kind == api.FInt && y.field.Auto != api.AutoNone {
				v.node.N = r.Uint64()
			} else if y.node.N != v.node.N || y.node.S != v.node.S || len(y.node.L) != len(v.node.L) {
				t.Errorf("%v: %v, not %v", y.path, *y.node, *v.node)
			}
		}
		if again, _, e := layout.Layout(p.d, p.v, len(p.b)); again != b || e != api.OK {
			t.Errorf("%v: %q, %d, not %q", p.v, again, e, b)
		}
	}
}

func TestP2Rejected(t *testing.T) {
	text := "record a { n: u8 size b; b: bytes[n]; m: u16be; k: u8 is 7; l: c[m]; } record c { x: u8; }"
	d := described(t, text)
	one := node(leaf(1, ""))
	v := func() api.Node {
		return node(leaf(0, ""), leaf(0, "xy"), leaf(2, ""), leaf(7, ""), node(one, one))
	}
	for i, c := range []struct {
		spoil func(x *api.Node)
		e     api.Errno
	}{
		{func(*api.Node) {}, api.OK},
		{func(x *api.Node) { x.L[0].N = math.MaxUint64 }, api.OK},
		{func(x *api.Node) { x.L[1].S = strings.Repeat("x", 255) }, api.OK},
		{func(x *api.Node) { x.L[1].S = strings.Repeat("x", 256) }, api.ErrField},
		{func(x *api.Node) { x.L[2].N = 1 << 16 }, api.ErrField},
		{func(x *api.Node) { x.L[2].N = 1 }, api.ErrType},
		{func(x *api.Node) { x.L[3].N = 8 }, api.ErrType},
		{func(x *api.Node) { x.L[4].L = x.L[4].L[:1] }, api.ErrType},
		{func(x *api.Node) { x.L = x.L[:4] }, api.ErrType},
		{func(x *api.Node) { x.N = 1 }, api.ErrType},
		{func(x *api.Node) { x.L[1].S = strings.Repeat("x", 3000) }, api.ErrLimit},
	} {
		x := v()
		c.spoil(&x)
		if b, l, e := layout.Layout(d, x, 2000); e != c.e || e != api.OK && (b != "" || l != nil) {
			t.Errorf("%d: %q, %d, not %d", i, b, e, c.e)
		}
	}
}

// greats are numbers that would be small ones if they wrapped around.
func greats() []uint64 {
	return []uint64{math.MaxUint64, math.MaxUint64 - 1, math.MaxUint64 - 7, 1 << 63, 1<<63 + 1, 1<<63 - 1, 1<<62 + 1, 1 << 62, 1<<62 - 1, 1<<32 + 1, 1 << 32, 1<<32 - 1, 1<<31 + 1, 1 << 31, 1<<31 - 1}
}

func TestP3NoWrapping(t *testing.T) {
	for _, n := range greats() {
		b := string(binary.BigEndian.AppendUint64(nil, n)) + "abcdefgh"
		for _, text := range []string{
			"record a { p: u64be offset q; q: bytes[0] at p; }", "record a { p: u64be offset q; q: bytes[9] at p shared; }", "record a { p: u64be offset q; q: c at p; } record c { x: u64be; }",
			"record a { n: u64be; b: bytes[n]; }", "record a { n: u64be; b: bytes[n - 1]; }", "record a { n: u64be; b: bytes[n * 4]; }", "record a { n: u64be; b: bytes[n + n]; }", "record a { n: u64be; b: bytes[n << 2]; }",
		} {
			if e := reads(t, text, b, 100); e != api.ErrCut && e != api.ErrForm {
				t.Errorf("%s, %d: %d", text, n, e)
			}
		}
		// Of a list, each record has at least one byte.
		for _, text := range []string{"record a { n: u64be; l: c[n]; } record c { x: u8; }", "record a { n: u64be; l: c[n * 2]; } record c { x: u8; }"} {
			if e := reads(t, text, b, 100); e != api.ErrCut && e != api.ErrForm {
				t.Errorf("%s, %d: %d", text, n, e)
			}
		}
	}
}

// TestP3Files: great numbers anywhere in files are read as what they are: the parts of what is accepted lie in the file, and are disjoint.
func TestP3Files(t *testing.T) {
	r := rand.New(rand.NewSource(3))
	for range 20 {
		for name, s := range files(r) {
			d, e := kit.Desc(name)
			for range 60 {
				b := []byte(s)
				n := greats()[r.Intn(len(greats()))]
				if k := r.Intn(min(len(b), 300)); r.Intn(2) == 0 {
					copy(b[k:], binary.BigEndian.AppendUint64(nil, n)[r.Intn(8):])
				} else {
					copy(b[k:], binary.LittleEndian.AppendUint64(nil, n)[:1+r.Intn(8)])
				}
				text := string(b)
				whole.Check(text, 1<<20)
				if e != api.OK {
					continue
				}
				if x, l, e := parse.Parse(d, text, api.MaxFuel); e == api.OK {
					isStored(t, d, text, x, l)
				}
			}
		}
	}
}

func TestP3Shared(t *testing.T) {
	b := "\x02\x02xy"
	alone := "record a { p: u8 offset b; q: u8 offset c; b: bytes[2] at p; c: bytes[1] at q; }"
	isError(t, reads(t, alone, b, 9), api.ErrOverlap)
	both := strings.ReplaceAll(alone, "at q", "at q shared")
	isError(t, reads(t, both, b, 9), api.OK)
	isError(t, reads(t, strings.ReplaceAll(both, "at p", "at p shared"), "\x00\x01xy", 9), api.OK)
	isError(t, reads(t, alone, "\x02\x04xyz", 9), api.OK)
}

// script is steps of a source, with faults or without.
func script(r *rand.Rand, faults bool) []api.Step {
	l := make([]api.Step, r.Intn(60))
	for i := range l {
		switch k := r.Intn(4); {
		case k == 0 && faults:
			l[i].Kind = api.SrcFault
		case k <= 2:
			l[i] = api.Step{Kind: api.SrcShort, N: r.Intn(4)}
		}
	}
	return l
}

func TestP4LazyReading(t *testing.T) {
	r := rand.New(rand.NewSource(4))
	seen := map[api.Errno]int{}
	for range 60 {
		for name, s := range files(r) {
			d, e := kit.Desc(name)
			if e != api.OK {
				continue
			}
			x, _ := kit.Tree(name, s)
			source, _ := src.New(s, script(r, r.Intn(2) == 0))
			reader, _ := lazy.Open(d, source)
			all := parts(d, &x)
			for range 40 {
				p := all[r.Intn(len(all))]
				y, e := reader.Get(p.path)
				seen[e]++
				if e != api.ErrFault && (e != api.OK || !same(y, *p.node)) || e == api.ErrFault && !same(y, api.Node{}) {
					t.Errorf("%s, %v: %v, %d, not %v", name, p.path, y, e, *p.node)
				}
				if r.Intn(8) == 0 {
					reader.Forget()
				}
			}
			for source.Left() > 0 {
				_, _ = source.ReadAt(0, 0)
			}
			if y, e := reader.Get(nil); e != api.OK || !same(y, x) {
				t.Errorf("%s: %v, %d, not %v", name, y, e, x)
			}
			isError(t, reader.Validate(), api.OK)
		}
	}
	if seen[api.OK] < 500 || seen[api.ErrFault] < 100 {
		t.Error(seen)
	}
}

// same compares nodes, where a list without elements is like any other one.
func same(x api.Node, y api.Node) bool {
	return x.N == y.N && x.S == y.S && slices.EqualFunc(x.L, y.L, same)
}

// TestP5Covered: what is written has its checksums, and what has others is not read.
func TestP5Covered(t *testing.T) {
	r := rand.New(rand.NewSource(5))
	d := described(t, "record a { s: u32le crc n c; z: u32be adler b b; n: u8 size b; b: bytes[n]; c: c; l: u32be adler m m; m: bytes[2]; } record c { x: u8; y: u32be crc x x; }")
	for range 500 {
		text, x := noise(r, r.Intn(9)), uint64(r.Intn(256))
		v := node(leaf(1, ""), leaf(2, ""), leaf(3, ""), leaf(0, text), node(leaf(x, ""), leaf(4, "")), leaf(5, ""), leaf(0, "zz"))
		b, _, e := layout.Layout(d, v, 99)
		if e != api.OK {
			t.Fatal(e)
		}
		first := string([]byte{byte(x)})
		inner := binary.BigEndian.AppendUint32(nil, sums.Crc(first))
		covered := string([]byte{byte(len(text))}) + text + first + string(inner)
		want := binary.BigEndian.AppendUint32(binary.LittleEndian.AppendUint32(nil, sums.Crc(covered)), sums.Adler(text))
		if b != string(want)+covered+string(binary.BigEndian.AppendUint32(nil, sums.Adler("zz")))+"zz" {
			t.Errorf("%q", b)
		}
		k := r.Intn(len(b))
		if k != 8 { // the length decides what is covered
			changed := b[:k] + string([]byte{b[k] ^ byte(1+r.Intn(255))}) + b[k+1:]
			_, _, e := parse.Parse(d, changed, 99)
			isError(t, e, api.ErrSum)
		}
	}
}

func noise(r *rand.Rand, n int) string {
	b := make([]byte, n)
	r.Read(b)
	return string(b)
}

// TestP5Parts: the checksum of a whole follows from those of its parts.
func TestP5Parts(t *testing.T) {
	r := rand.New(rand.NewSource(6))
	for range 2000 {
		a, b := noise(r, r.Intn(40)), noise(r, r.Intn(40))
		if sums.More(sums.Crc(a), b) != sums.Crc(a+b) || sums.AdlerMore(sums.Adler(a), b) != sums.Adler(a+b) {
			t.Errorf("%q, %q", a, b)
		}
		if len(a)%4 == 0 && sums.Words(a)+sums.Words(b) != sums.Words(a+b) {
			t.Errorf("%q, %q", a, b)
		}
	}
}
