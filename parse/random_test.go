package parse

import (
	"math/rand"
	"reflect"
	"slices"
	"strings"
	"testing"
	"unsafe"

	"mortise/api"
	"mortise/desc"
	"mortise/samples"
)

// normal is a node whose empty lists are nil.
func normal(x api.Node) api.Node {
	y := api.Node{N: x.N, S: x.S}
	for _, z := range x.L {
		y.L = append(y.L, normal(z))
	}
	return y
}

// same holds Parse against the model, and returns the reader that tells how it went.
func same(t *testing.T, d api.Desc, b string, fuel int) (api.Errno, *reader) {
	t.Helper()
	node, regions, want, m := model(d, b, fuel)
	x, l, e := Parse(d, b, fuel)
	if e != want || !reflect.DeepEqual(normal(x), normal(node)) || showRegions(l) != showRegions(regions) || e != api.OK && (x.L != nil || l != nil) {
		text, _ := desc.Print(d)
		t.Errorf("%s%q, %d: %s, %s, %d, not %s, %s, %d", text, b, fuel, show(x), showRegions(l), e, show(node), showRegions(regions), want)
	}
	return want, m
}

// readable are random bytes for a description, changed until they can be read, or given up. Whatever is met on the way is held against the model.
func readable(t *testing.T, r *rand.Rand, d api.Desc, see func(e api.Errno, m *reader)) (string, bool) {
	t.Helper()
	b := noise(r, r.Intn(30))
	for range 60 {
		e, m := same(t, d, b, 600)
		see(e, m)
		if e == api.OK {
			return b, true
		}
		b = m.mended(r, e)
	}
	return b, false
}

func TestP14_1Random(t *testing.T) {
	random := rand.New(rand.NewSource(141))
	errors, met := map[api.Errno]int{}, map[string]int{}
	for range 5000 {
		d := samples.Desc(random.Intn)
		readable(t, random, d, func(e api.Errno, m *reader) {
			errors[e]++
			if random.Intn(8) == 0 {
				f, _ := same(t, d, m.b, random.Intn(30))
				errors[f]++
			}
			if e == api.OK {
				for s := range m.seen {
					met[s]++
				}
			}
		})
	}
	for _, e := range []api.Errno{api.OK, api.ErrCut, api.ErrForm, api.ErrSum, api.ErrOverlap, api.ErrFuel} {
		if errors[e] < 200 {
			t.Errorf("error %d: %d times", e, errors[e])
		}
	}
	for _, s := range []string{"kind 1", "kind 2", "kind 3", "kind 4", "kind 5", "kind 6", "kind 7", "kind 8", "auto 0", "auto 1", "auto 2", "auto 3", "auto 4", "auto 5", "at", "shared", "padding", "is", "element", "case", "else"} {
		if met[s] < 100 {
			t.Errorf("%s: read %d times", s, met[s])
		}
	}
}

// TestP14_2Regions: they lie within the bytes, do not overlap, and are in ascending order; each one is the part that its path leads to.
func TestP14_2Regions(t *testing.T) {
	random := rand.New(rand.NewSource(142))
	for range 3000 {
		d := samples.Desc(random.Intn)
		b, ok := readable(t, random, d, func(api.Errno, *reader) {})
		if !ok {
			continue
		}
		x, l, _ := Parse(d, b, api.MaxFuel)
		end := 0
		for _, r := range l {
			if r.Lo < end || r.Hi <= r.Lo || r.Hi > len(b) || len(r.Path) == 0 {
				t.Errorf("%s: %s", show(x), showRegions(l))
			}
			end = r.Hi
			part := x
			for _, i := range r.Path {
				part = part.L[i]
			}
			if part.L != nil || part.S != "" && part.S != b[r.Lo:r.Hi] {
				t.Errorf("%s: %s at %d to %d", show(x), show(part), r.Lo, r.Hi)
			}
		}
	}
}

// TestP14_2Fuel: with more of it the result is the same, and with less it is the same, or ErrFuel.
func TestP14_2Fuel(t *testing.T) {
	random := rand.New(rand.NewSource(143))
	for range 600 {
		d := samples.Desc(random.Intn)
		b, _ := readable(t, random, d, func(api.Errno, *reader) {})
		want, m := same(t, d, b, 3000)
		for fuel := range min(m.spent, 200) {
			if _, _, e := Parse(d, b, fuel); e != api.ErrFuel {
				t.Errorf("%d of %d: %d", fuel, m.spent, e)
			}
		}
		if want == api.ErrFuel {
			continue
		}
		for _, fuel := range []int{m.spent, m.spent + 1, api.MaxFuel} {
			same(t, d, b, fuel)
		}
	}
}

// isOpen tells whether a description has a field up to the end.
func isOpen(d api.Desc) bool {
	return slices.ContainsFunc(d.Recs[0].Fields, func(f api.Field) bool { return f.Kind == api.FRest || f.Kind == api.FFill })
}

// TestP14_2Behind: bytes behind everything that is read do not matter, unless a field is open.
func TestP14_2Behind(t *testing.T) {
	random := rand.New(rand.NewSource(144))
	closed, open := 0, 0
	for range 3000 {
		d := samples.Desc(random.Intn)
		b, ok := readable(t, random, d, func(api.Errno, *reader) {})
		if !ok {
			continue
		}
		x, l, _ := Parse(d, b, api.MaxFuel)
		more := b + noise(random, 1+random.Intn(9))
		y, k, e := Parse(d, more, api.MaxFuel)
		equal := e == api.OK && show(x) == show(y) && showRegions(l) == showRegions(k)
		if isOpen(d) {
			open++
			if equal {
				t.Errorf("%s, %q: %s", show(x), more, show(y))
			}
			continue
		}
		closed++
		if !equal {
			t.Errorf("%s, %q: %s, %d", show(x), more, show(y), e)
		}
	}
	if closed < 500 || open < 100 {
		t.Errorf("%d, %d", closed, open)
	}
}

// TestP14_1Backward: parts that stand in descending order have their regions in ascending order all the same.
func TestP14_1Backward(t *testing.T) {
	const n = 20000
	d := read(t, "record a { n: u32be; l: c[n]; } record c { p: u32be offset q; q: bytes[1] at p; }")
	b := []byte{0, 0, n >> 8, n & 255}
	for i := range n {
		at := 4 + 4*n + n - 1 - i
		b = append(b, byte(at>>24), byte(at>>16), byte(at>>8), byte(at))
	}
	b = append(b, strings.Repeat("xyz.", n/4)...)
	x, l, e := Parse(d, string(b), api.MaxFuel)
	if e != api.OK || len(l) != 1+2*n || len(x.L[1].L) != n {
		t.Fatalf("%d, %d regions", e, len(l))
	}
	for i, r := range l[1+n:] {
		if r.Lo != 4+4*n+i || r.Hi != r.Lo+1 || !slices.Equal(r.Path, []int{1, n - 1 - i, 1}) {
			t.Fatalf("%d: %v", i, r)
		}
	}
}

// TestR1SharedAgain: very many parts that are the same bytes take no more memory than one.
func TestR1SharedAgain(t *testing.T) {
	const n = 20000
	d := read(t, "record a { l: c[20000]; b: bytes[1000000]; } record c { p: u32be offset q; q: bytes[1000000] at p shared; }")
	b := strings.Repeat("\x00\x01\x38\x80", n) + strings.Repeat("z", 1000000)
	x, l, e := Parse(d, b, api.MaxFuel)
	if e != api.OK || len(l) != n+1 || len(x.L[0].L) != n || x.L[0].L[n-1].L[1].S != b[4*n:] {
		t.Errorf("%d, %d regions", e, len(l))
	}
	if _, _, e := Parse(d, b[:len(b)-1], api.MaxFuel); e != api.ErrCut {
		t.Error(e)
	}
}

// lists calls a function with a pointer to each list of a node.
func lists(x *api.Node, see func(*[]api.Node)) {
	see(&x.L)
	for i := range x.L {
		lists(&x.L[i], see)
	}
}

// TestR5Memory: arguments are as they were, and no list of a result shares memory with another one, with spare capacity included.
func TestR5Memory(t *testing.T) {
	random := rand.New(rand.NewSource(145))
	for range 1000 {
		d := samples.Desc(random.Intn)
		before := samples.Copy(d)
		b, ok := readable(t, random, d, func(api.Errno, *reader) {})
		if !reflect.DeepEqual(samples.Copy(d), before) {
			t.Errorf("%v, not %v", d, before)
		}
		if !ok {
			continue
		}
		x, l, _ := Parse(d, b, api.MaxFuel)
		node, regions := show(x), showRegions(l)
		lists(&x, func(l *[]api.Node) { _ = append(*l, api.Node{N: 99}) })
		for i := range l {
			_ = append(l[i].Path, 99)
		}
		_ = append(l, api.Region{Lo: 99})
		if show(x) != node || showRegions(l) != regions {
			t.Errorf("%s, %s: %s, %s", node, regions, show(x), showRegions(l))
		}
		for i := range l {
			for k := range l[i].Path {
				l[i].Path[k]++
			}
		}
		if show(x) != node {
			t.Errorf("%s, %s", node, show(x))
		}
		if y, k, e := Parse(d, b, api.MaxFuel); show(y) != node || showRegions(k) != regions || e != api.OK { // R6
			t.Errorf("%s, %s: %s, %s, %d", node, regions, show(y), showRegions(k), e)
		}
	}
}

// TestR5Bytes: a node's bytes are not those of the argument.
func TestR5Bytes(t *testing.T) {
	b := strings.Repeat("xyz", 3)
	x, _, e := Parse(read(t, "record a { b: bytes[3]; r: rest; }"), b, 9)
	if e != api.OK || x.L[0].S != "xyz" || x.L[1].S != "xyzxyz" {
		t.Fatalf("%v, %d", x, e)
	}
	lo := uintptr(unsafe.Pointer(unsafe.StringData(b)))
	for _, y := range x.L {
		if at := uintptr(unsafe.Pointer(unsafe.StringData(y.S))); at >= lo && at < lo+uintptr(len(b)) {
			t.Errorf("%q is a part of the argument", y.S)
		}
	}
}

func TestExamplesOfTheDocument(t *testing.T) {
	text := "record a { n: u8 size b; b: bytes[n]; }"
	wants(t, text, "\x02\x78\x79", `{2 "xy"}`, "0-1:0 1-3:1")
	wantsError(t, text, "\x05\x78", api.ErrCut)
	fails(t, text, "\x01\x78", 1, api.ErrFuel)
	wantsError(t, "record a { p: u8 offset q; q: c at p; r: u8; } record c { x: u16be; }", "\x01\x09\x01\x02", api.ErrOverlap)
	wantsError(t, "record a { b: bytes[n]; n: u8; }", "\x01\x78", api.ErrType)
	text = "record a { n: u8; b: bytes[n]; }"
	wants(t, text, "\x02\x78\x79\x7a", `{2 "xy"}`, "0-1:0 1-3:1")
	fails(t, text, "\x02\x78\x79\x7a", 1, api.ErrFuel)
	wantsError(t, text, "\x05\x78", api.ErrCut)
}
