package check

import (
	"math"
	"math/rand"
	"reflect"
	"slices"
	"strconv"
	"strings"
	"testing"

	"mortise/api"
	"mortise/desc"
	"mortise/samples"
)

const name16 = "abcdefghijklmnop"

func read(t *testing.T, s string) api.Desc {
	t.Helper()
	d, e := desc.Parse(s)
	if e != api.OK {
		t.Fatalf("%q: %d", s, e)
	}
	return d
}

func wantsValid(t *testing.T, d api.Desc) {
	t.Helper()
	if e := Check(d); e != api.OK {
		t.Errorf("%.500v: %d", d, e)
	}
	if l := broken(d); l != nil {
		t.Errorf("%.500v: the model says %v", d, l)
	}
}

// wantsBroken holds that a description breaks this rule and no other one, so that it is this rule that is tested.
func wantsBroken(t *testing.T, d api.Desc, rule int) {
	t.Helper()
	if e := Check(d); e != api.ErrType {
		t.Errorf("rule %d: %.500v: %d", rule, d, e)
	}
	if l := broken(d); !slices.Equal(l, []int{rule}) {
		t.Errorf("rule %d: %.500v: the model says %v", rule, d, l)
	}
}

// same holds Check against the model.
func same(t *testing.T, d api.Desc) []int {
	t.Helper()
	l, want := broken(d), api.OK
	if l != nil {
		want = api.ErrType
	}
	if e := Check(d); e != want {
		t.Errorf("%v: %d, but it breaks %v", d, e, l)
	}
	return l
}

func TestP13_1ValidTexts(t *testing.T) {
	for _, s := range []string{
		"record a { }", "record a { n: u8; b: bytes[n]; }", "record a { } record b { }", "record u8_ { bytes_: u8; }",
		// other records of the same names, and fields of records' names
		"record a { a: u8; b: b; } record b { a: u8; b: bytes[a]; }",
		"record a { b: b; c: c; d: b[2]; } record b { c: c; n: u8; } record c { }", "record a { x: b; } record c { x: u8; } record b { }",
		"record a { n: u8 is 255; m: u16le is 65535; k: u32be is 4294967295; j: u64le is 4611686018427387904; }",
		"record a { n: u16be; m: u8 size b; b: bytes[n + m * 2 - n]; c: b[m]; } record b { n: u64be; }",
		"record a { k: u8; p: pick k { }; } ", "record a { k: u8; p: pick k { 0: b; 1: b; 4611686018427387904: c; else b; }; } record b { c: c; } record c { }",
		"record a { x: align 1; y: align 4096; }", "record a { r: rest; }", "record a { b: b; r: b[]; } record b { n: u8; }",
		// sizes and counts of fields before and behind
		"record a { n: u8 size r; m: u8 size r; r: rest; }", "record a { n: u8 count r; r: b[]; } record b { n: u8; }", "record a { b: b; n: u8 size b; } record b { }",
		"record a { b: b[2]; n: u8 count b; m: u8 size b; } record b { n: u8; }", "record a { k: u8; n: u8 size p; p: pick k { 1: b; }; } record b { }", "record a { n: u64be size b; b: bytes[9]; }",
		"record a { n: u8 size q; p: u8 offset q; q: bytes[2] at p; }", "record a { n: u8 count q; p: u8 offset q; q: b[n] at p; } record b { m: u8; }",
		// fields elsewhere
		"record a { p: u8 offset q; q: bytes[p] at p; }", "record a { p: u64le offset q; r: u8; q: b at p shared; } record b { }", "record a { p: u8 offset q; q: b[2] at p; } record b { p: u16be offset q; q: bytes[1] at p; }",
		"record a { p: u8 offset q; q: pick 1 { 1: b; } at p shared; } record b { }", "record a { p: u8 offset q; r: u8 offset s; s: b at r; q: b at p; } record b { }",
		// checksums
		"record a { x: u8; s: u32be crc x x; }", "record a { s: u32le adler x y; x: u8; y: rest; }", "record a { x: u8; y: b; z: align 4; s: u32be crc x z; t: u32le adler y y; } record b { n: u8; s: u32be crc n n; }",
		"record a { s: u32be crc x y; x: u8; p: u8 offset q; q: bytes[1] at p; y: u8; }", "record a { x: u8; s: u32be crc x x; y: u8; t: u32be crc y y; u: u32be adler x x; }", "record a { x: u32be is 7; s: u32be crc x x; }",
		"record a { n: u8 size b; b: bytes[n]; s: u32be crc n b; }",
	} {
		wantsValid(t, read(t, s))
	}
}

// TestP13_1BrokenTexts: each text breaks one rule.
func TestP13_1BrokenTexts(t *testing.T) {
	for rule, l := range map[int][]string{
		1: {"", "record a { } record a { }", "record a { } record b { } record c { } record b { x: u8; }"},
		2: {"record a { x: u8; x: u8; }", "record a { } record b { x: u8; y: u8; x: rest_; } record rest_ { }"},
		3: {
			"record a { x: b; }", "record a { x: b[1]; } record c { n: u8; } record b { n: u8; x: none; }", "record a { x: a; }", "record a { x: b; } record b { y: a; }", "record a { x: b; } record b { y: b; }",
			"record a { } record b { y: b; }", "record a { } record b { x: c; } record c { x: b; }", "record a { } record b { x: c; } record c { n: u8; x: d[n]; } record d { n: u8; x: pick n { 0: b; }; }", "record a { } record b { x: a; }",
			"record a { } record b { n: u8; x: pick n { else b; }; }", "record a { n: u8; x: pick n { 1: none; }; }", "record a { n: u8; x: pick n { else none; }; }", "record a { n: u8; x: pick n { 0: b; 1: a; }; } record b { }", "record a { n: u8; x: pick n { 0: b; else a; }; } record b { }",
			"record a { n: u8; x: a[n]; }", "record a { n: u8; x: a[]; }", "record a { } record b { p: u8 offset q; q: b at p; }",
		},
		4: {"record a { n: u8 is 256; }", "record a { n: u16le is 65536; }", "record a { n: u32be is 4294967296; }", "record a { } record b { x: u8; n: u8 is 4611686018427387904; }"},
		5: {
			"record a { b: bytes[n]; n: u8; }", "record a { b: bytes[n]; }", "record a { n: u8; } record b { b: bytes[n]; }", "record a { b: bytes[b]; }", "record a { c: b; b: bytes[c]; } record b { n: u8; }", "record a { c: b; b: bytes[n]; } record b { n: u8; }",
			"record a { n: u8; b: bytes[1 + n * (2 - m)]; m: u8; }", "record a { n: u8; b: b[m + n]; } record b { m: u8; }", "record a { n: u8; b: pick n | m { }; }", "record a { b: bytes[a]; }", "record a { n: u8; b: bytes[n]; c: bytes[b]; }",
			"record a { x: u8; s: u32be crc x x; b: bytes[s]; }", "record a { x: u8; s: u32be adler x x; b: pick s { }; }", "record a { x: u8; s: u32be crc x x; b: b[1 + s]; } record b { n: u8; }",
			"record a { x: align 0; }", "record a { x: align 4097; }", "record a { } record b { n: u8; x: align 1048576; }",
			"record a { x: pick 1 { 1: b; 1: b; }; } record b { }", "record a { x: pick 1 { 1: b; 2: c; 3: b; 1: c; }; } record b { } record c { }", "record a { n: u8; b: bytes[n]; q: bytes[n] ; r: bytes[q]; }",
		},
		6: {"record a { r: b[]; } record b { }", "record a { r: b[2]; } record b { x: bytes[1]; }", "record a { r: b[0]; } record b { x: c; } record c { n: u8; }", "record a { } record b { r: c[1]; } record c { x: align 4; y: pick 1 { }; }"},
		7: {
			"record a { r: rest; x: u8; }", "record a { x: b; } record b { x: rest; }", "record a { r: b[]; s: rest; } record b { n: u8; }", "record a { r: rest; s: rest; }", "record a { } record b { n: u8; x: c[]; } record c { n: u8; }",
			"record a { n: u8; r: rest; } record b { r: rest; }", "record a { p: u8 offset q; q: bytes[1] at p; r: rest; }", "record a { r: rest; } record b { p: u8 offset q; q: bytes[1] at p; }", "record a { p: u8 offset q; q: b at p; r: b[]; } record b { n: u8; }",
			"record a { x: align 4; r: rest; y: align 4; }",
		},
		8: {
			"record a { p: u8; q: bytes[1] at p; }", "record a { p: u8 size q; q: bytes[1] at p; }", "record a { q: bytes[1] at p; p: u8 offset q; }", "record a { q: bytes[1] at q; }", "record a { q: bytes[1] at none; }", "record a { p: bytes[1]; q: bytes[1] at p; }",
			"record a { p: u8 offset q; q: bytes[1] at p; r: bytes[1] at p; }", "record a { p: u8 offset x; x: u8 at p; }", "record a { p: u8 offset x; x: align 4 at p; }", "record a { p: u8 is 1; q: b at p shared; } record b { }",
			"record a { x: b; q: bytes[1] at p; } record b { p: u8 offset q; q: bytes[1] at p; }", "record a { n: u8 count q; q: b[2] at n; } record b { n: u8; }", "record a { x: u8; s: u32be crc x x; q: bytes[1] at s; }",
			"record a { p: u8 offset q; q: bytes[1] at p; } record b { q: bytes[1] at p; }",
		},
		9: {
			"record a { n: u8 size n; }", "record a { n: u8 size z; }", "record a { n: u8 size m; m: u8; }", "record a { n: u8 size x; x: align 4; }", "record a { n: u8 count b; b: bytes[1]; }", "record a { n: u8 count b; b: b; } record b { n: u8; }",
			"record a { n: u8 count b; b: pick 1 { 1: b; }; } record b { n: u8; }", "record a { n: u8 count m; m: u8; }", "record a { n: u8 count n; }", "record a { n: u8 count r; r: rest; }", "record a { n: u8 count z; }", "record a { n: u8 count b; } record b { b: c[1]; } record c { n: u8; }",
			"record a { p: u8 offset q; q: bytes[1]; }", "record a { p: u8 offset q; }", "record a { p: u8 offset p; }", "record a { p: u8 offset q; r: u8 offset q; q: bytes[1] at p; }", "record a { p: u8 offset q; r: u8 offset q; q: bytes[1] at r; }",
			"record a { x: u8; s: u16be crc x x; }", "record a { x: u8; s: u64le adler x x; }", "record a { x: u8; s: u8 crc x x; }", "record a { x: u8; s: u32be crc x s; }", "record a { x: u8; s: u32be crc s s; }", "record a { x: u8; s: u32be crc s x; }", "record a { x: u8; y: u8; s: u32be crc y x; }",
			"record a { x: u8; s: u32be crc x y; y: u8; }", "record a { x: u8; s: u32be crc x x; t: u32be crc x s; }", "record a { x: u8; s: u32be crc x x; t: u32be adler s s; }", "record a { s: u32be adler x y; x: u8; t: u32be crc x x; y: u8; }",
			"record a { x: u8; s: u32be crc z x; }", "record a { x: u8; s: u32be crc x z; }", "record a { x: u8; s: u32be adler z z; }", "record a { s: u32be crc q q; p: u8 offset q; q: bytes[1] at p; }", "record a { s: u32be crc q x; p: u8 offset q; q: bytes[1] at p; x: u8; }",
			"record a { s: u32be adler p q; p: u8 offset q; q: bytes[1] at p; }", "record a { x: b; s: u32be crc n n; } record b { n: u8; }",
		},
	} {
		for _, s := range l {
			wantsBroken(t, read(t, s), rule)
		}
	}
}

// fields is a description of one record with these fields and expressions.
func fields(exps []api.Exp, l ...api.Field) api.Desc {
	for i := range l {
		if l[i].Name == "" {
			l[i].Name = "x" + strconv.Itoa(i)
		}
	}
	return api.Desc{Recs: []api.Rec{{Name: "a", Fields: l}}, Exps: exps}
}

func u8(name string) api.Field { return api.Field{Name: name, Kind: api.FInt, Width: 1} }

func TestP13_1Names(t *testing.T) {
	for _, s := range []string{"a", "Z", "_", "a1_Z", name16, "u8", "record", "rest", "at"} {
		d := fields(nil, u8(s))
		d.Recs[0].Name = s
		wantsValid(t, d)
	}
	for _, s := range []string{"", "1", "1a", "a b", "a-", " a", "a ", name16 + "q", "é", "a\x00", "x:", "+"} {
		d := fields(nil, u8("x"))
		d.Recs[0].Name = s
		wantsBroken(t, d, 1)
		d.Recs = append([]api.Rec{{Name: "first"}}, d.Recs...)
		wantsBroken(t, d, 1)
		d = fields(nil, u8("n"), u8("m"))
		d.Recs[0].Fields[1].Name = s
		wantsBroken(t, d, 2)
	}
}

// many are n records, each with n fields.
func many(records int, count int) api.Desc {
	var d api.Desc
	for i := range records {
		var l []api.Field
		for k := range count {
			l = append(l, u8("f"+strconv.Itoa(k)))
		}
		d.Recs = append(d.Recs, api.Rec{Name: "r" + strconv.Itoa(i), Fields: l})
	}
	return d
}

func TestP13_1Counts(t *testing.T) {
	wantsValid(t, many(40, 40))
	wantsBroken(t, many(41, 0), 1)
	wantsBroken(t, many(1, 41), 2)
	wantsBroken(t, api.Desc{}, 1)
	wantsBroken(t, api.Desc{Recs: []api.Rec{}, Exps: []api.Exp{{N: 1}}}, 1)
	d := many(3, 40)
	d.Recs[2].Fields = append(d.Recs[2].Fields, u8("x"))
	wantsBroken(t, d, 2)
	for n := 18; n < 24; n++ {
		f := api.Field{Kind: api.FPick}
		for i := range n {
			f.Cases = append(f.Cases, api.Case{N: uint64(i) << 59, Rec: "b"})
		}
		d := fields([]api.Exp{{N: 1}}, f)
		d.Recs = append(d.Recs, api.Rec{Name: "b"})
		if n <= 20 {
			wantsValid(t, d)
		} else {
			wantsBroken(t, d, 5)
		}
	}
}

func TestP13_1Exps(t *testing.T) {
	one := api.Exp{N: 1}
	d := fields([]api.Exp{one, {Name: "none"}, {Op: "+", L: 1, R: 0}}, api.Field{Kind: api.FBytes})
	wantsValid(t, d) // what no field uses may have any name
	for _, x := range []api.Exp{{Op: "?"}, {Name: "1"}, {N: 1<<62 + 1}, {Op: "+", L: 3}, {Op: "+", R: -1}, {L: 1}} {
		c := samples.Copy(d)
		c.Exps = append(c.Exps, x)
		if l := broken(c); !slices.Contains(l, 1) || Check(c) != api.ErrType {
			t.Errorf("%v: %v", c, l)
		}
	}
	d.Exps = slices.Repeat([]api.Exp{one}, 400)
	wantsValid(t, d)
	d.Recs[0].Fields[0].E = 399
	wantsValid(t, d)
	for _, i := range []int{400, 401, -1, math.MinInt, math.MaxInt} {
		for _, kind := range []int{api.FBytes, api.FArray, api.FPick} {
			c := samples.Copy(d)
			f := &c.Recs[0].Fields[0]
			f.Kind, f.E, f.Rec = kind, i, "b"
			c.Recs = append(c.Recs, api.Rec{Name: "b", Fields: []api.Field{u8("n")}})
			wantsBroken(t, c, 5)
			f.E = 0
			wantsValid(t, c)
		}
	}
	d.Exps = append(d.Exps, one)
	if Check(d) != api.ErrType {
		t.Error("401 expressions")
	}
	wantsBroken(t, fields(nil, api.Field{Kind: api.FBytes}), 5)
}

func TestP13_1Kinds(t *testing.T) {
	for _, k := range []int{0, 9, 10, -1, math.MinInt, math.MaxInt} {
		wantsBroken(t, fields(nil, u8("n"), api.Field{Kind: k}), 2)
	}
}

func TestP13_1Ints(t *testing.T) {
	for _, width := range []int{math.MinInt, -8, -1, 0, 1, 2, 3, 4, 5, 6, 7, 8, 9, 16, 64, math.MaxInt} {
		f := api.Field{Kind: api.FInt, Width: width}
		good := slices.Contains([]int{1, 2, 4, 8}, width)
		for _, big := range []bool{false, true} {
			f.Big = big
			if good {
				wantsValid(t, fields(nil, f))
			} else {
				wantsBroken(t, fields(nil, f), 4)
			}
		}
		for _, n := range []uint64{0, 255, 256, 1<<16 - 1, 1 << 16, 1<<32 - 1, 1 << 32, 1 << 62, 1<<62 + 1, 1 << 63, math.MaxUint64} {
			f.Is, f.Const = true, n
			if good && (width == 8 || n>>(8*width) == 0) {
				wantsValid(t, fields(nil, f))
			} else {
				wantsBroken(t, fields(nil, f), 4)
			}
			f.Is = false // then the number has no meaning
			if good {
				wantsValid(t, fields(nil, f))
			}
		}
	}
}

func TestP13_1Autos(t *testing.T) {
	for auto := -3; auto < 9; auto++ {
		f := api.Field{Name: "n", Kind: api.FInt, Width: 4, Auto: auto, A: "b", B: "b"}
		b := api.Field{Name: "b", Kind: api.FArray, Rec: "b"}
		d := fields([]api.Exp{{N: 1}}, f, b)
		d.Recs = append(d.Recs, api.Rec{Name: "b", Fields: []api.Field{u8("n")}})
		l := d.Recs[0].Fields
		if auto == api.AutoAt {
			l[1].At = "n"
		}
		if auto < 0 || auto > 5 {
			wantsBroken(t, d, 4)
			continue
		}
		wantsValid(t, d)
		l[0].Is = true
		if auto == api.AutoNone {
			wantsValid(t, d)
		} else {
			wantsBroken(t, d, 4)
		}
		l[0].Is = false
		l[0].B = "none"
		if auto == api.AutoCrc || auto == api.AutoAdler {
			wantsBroken(t, d, 9)
		} else {
			wantsValid(t, d)
		}
		if l[0].A = "none"; auto == api.AutoNone {
			wantsValid(t, d)
		}
	}
	for _, f := range []api.Field{{Auto: math.MinInt}, {Auto: math.MaxInt}} {
		f.Kind, f.Width = api.FInt, 1
		wantsBroken(t, fields(nil, f), 4)
	}
}

// TestP13_1Unused: members that a kind does not use may be anything.
func TestP13_1Unused(t *testing.T) {
	used := map[int]string{api.FInt: "Width Big Is Const Auto A B", api.FBytes: "E", api.FRest: "", api.FRec: "Rec", api.FArray: "E Rec", api.FFill: "Rec", api.FPick: "E Cases Else", api.FAlign: "Align"}
	wrong := map[string]func(*api.Field){
		"Width": func(f *api.Field) { f.Width = 3 },
		"Is":    func(f *api.Field) { f.Is, f.Const, f.Auto = true, math.MaxUint64, api.AutoSize },
		"Auto":  func(f *api.Field) { f.Auto = 9 },
		"A":     func(f *api.Field) { f.Auto, f.A = api.AutoCrc, "none" },
		"B":     func(f *api.Field) { f.Auto, f.A, f.B = api.AutoAdler, "x0", "none" },
		"E":     func(f *api.Field) { f.E = -7 },
		"Rec":   func(f *api.Field) { f.Rec = "none" },
		"Align": func(f *api.Field) { f.Align = -1 },
		"Cases": func(f *api.Field) { f.Cases = []api.Case{{N: 1, Rec: "none"}, {N: 1, Rec: "a"}} },
		"Else":  func(f *api.Field) { f.Else = "a" },
	}
	for kind, words := range used {
		for m, spoil := range wrong {
			f := api.Field{Kind: kind, Width: 1, Rec: "b", Align: 4}
			spoil(&f)
			d := fields([]api.Exp{{N: 1}}, f)
			d.Recs = append(d.Recs, api.Rec{Name: "b", Fields: []api.Field{u8("n")}})
			if slices.Contains(strings.Fields(words), m) {
				if Check(d) != api.ErrType || len(broken(d)) == 0 {
					t.Errorf("kind %d: %s", kind, m)
				}
			} else {
				wantsValid(t, d)
			}
		}
	}
	// What a field of another kind says of computing does not make it a checksum.
	l := []api.Field{{Name: "b", Kind: api.FBytes, Auto: api.AutoCrc}, {Name: "s", Kind: api.FInt, Width: 4, Auto: api.AutoCrc, A: "b", B: "b"}}
	wantsValid(t, fields([]api.Exp{{N: 1}}, l...))
}

// TestP13_1Places: At and Shared have a meaning for fields of each kind.
func TestP13_1Places(t *testing.T) {
	for kind := api.FInt; kind <= api.FAlign; kind++ {
		f := api.Field{Name: "q", Kind: kind, Width: 1, Rec: "b", Align: 4, At: "p"}
		p := api.Field{Name: "p", Kind: api.FInt, Width: 1, Auto: api.AutoAt, A: "q"}
		d := fields([]api.Exp{{N: 1}}, p, f)
		d.Recs = append(d.Recs, api.Rec{Name: "b", Fields: []api.Field{u8("n")}})
		l := d.Recs[0].Fields
		movable := slices.Contains([]int{api.FBytes, api.FRec, api.FArray, api.FPick}, kind)
		for range 2 {
			if l := broken(d); movable && l != nil || !movable && !slices.Contains(l, 8) {
				t.Errorf("kind %d: the model says %v", kind, l)
			}
			same(t, d)
			l[1].Shared = true
		}
		l[0].Auto, l[1].At = api.AutoNone, ""
		wantsBroken(t, d, 8)
		l[1].Shared = false
		wantsValid(t, d)
	}
}

// chained are records, each of which leads to the next one by a field of one of the kinds that may.
func chained(n int) api.Desc {
	d := api.Desc{Exps: []api.Exp{{N: 1}}}
	for i := range n {
		l := []api.Field{u8("n")}
		if i < n-1 {
			f := api.Field{Name: "x", Kind: []int{api.FRec, api.FArray, api.FPick, api.FPick}[i%4]}
			next := "r" + strconv.Itoa(i+1)
			switch i % 4 {
			case 2:
				f.Cases = []api.Case{{N: 7, Rec: next}}
			case 3:
				f.Else = next
			default:
				f.Rec = next
			}
			l = append(l, f)
		}
		d.Recs = append(d.Recs, api.Rec{Name: "r" + strconv.Itoa(i), Fields: l})
	}
	return d
}

func TestP13_1Chains(t *testing.T) {
	for n := 1; n <= 40; n++ {
		d := chained(n)
		for range 4 {
			if n <= 12 {
				wantsValid(t, d)
			} else {
				wantsBroken(t, d, 3)
			}
			slices.Reverse(d.Recs[1:])
			if n > 2 {
				d.Recs[1], d.Recs[n/2] = d.Recs[n/2], d.Recs[1]
			}
		}
		// A chain that the first record is not part of counts all the same.
		d.Recs = append([]api.Rec{{Name: "whole"}}, d.Recs...)
		if n <= 12 {
			wantsValid(t, d)
		} else if n < 40 {
			wantsBroken(t, d, 3)
		}
	}
}

// TestP13_1Wide: very many chains, each of them short enough, take no longer than few.
func TestP13_1Wide(t *testing.T) {
	d := api.Desc{Recs: []api.Rec{{Name: "whole"}}}
	for level := range 13 {
		for k := range 3 {
			var l []api.Field
			for i := range 40 {
				f := u8("n" + strconv.Itoa(i))
				if level > 0 {
					f = api.Field{Name: f.Name, Kind: api.FRec, Rec: "r" + strconv.Itoa(level-1) + "_" + strconv.Itoa(i%3)}
				}
				l = append(l, f)
			}
			d.Recs = append(d.Recs, api.Rec{Name: "r" + strconv.Itoa(level) + "_" + strconv.Itoa(k), Fields: l})
		}
		if level < 12 {
			wantsValid(t, d)
		} else {
			wantsBroken(t, d, 3)
		}
	}
}

// TestP13_1SharedParts: an expression whose parts are parts of very many others is examined all the same.
func TestP13_1SharedParts(t *testing.T) {
	l := []api.Exp{{Name: "n"}}
	for i := range 399 {
		l = append(l, api.Exp{Op: "+", L: i, R: i})
	}
	d := fields(l, u8("n"), api.Field{Kind: api.FBytes, E: 399})
	if e := Check(d); e != api.OK {
		t.Error(e)
	}
	d.Exps[0].Name = "x1"
	if e := Check(d); e != api.ErrType {
		t.Error(e)
	}
}

func TestP13_1Random(t *testing.T) {
	random := rand.New(rand.NewSource(131))
	alone := map[int]int{}
	valid := 0
	for range 60000 {
		d := samples.Desc(random.Intn)
		for range 1 + random.Intn(3) {
			change(random, &d)
		}
		switch l := same(t, d); len(l) {
		case 0:
			valid++
		case 1:
			alone[l[0]]++
		}
	}
	for rule := 1; rule <= 9; rule++ {
		if alone[rule] < 100 {
			t.Errorf("rule %d: broken alone %d times", rule, alone[rule])
		}
	}
	if valid < 5000 {
		t.Errorf("%d are valid", valid)
	}
}

func TestP13_2Reordered(t *testing.T) {
	random := rand.New(rand.NewSource(132))
	for range 3000 {
		d := samples.Desc(random.Intn)
		for range random.Intn(2) {
			change(random, &d)
		}
		e := Check(d)
		l := d.Recs[1:]
		random.Shuffle(len(l), func(i int, k int) { l[i], l[k] = l[k], l[i] })
		if f := Check(d); f != e {
			t.Errorf("%v: %d, not %d", d, f, e)
		}
	}
}

func TestR5AndR6OfCheck(t *testing.T) {
	random := rand.New(rand.NewSource(135))
	for range 2000 {
		d := samples.Desc(random.Intn)
		for range random.Intn(2) {
			change(random, &d)
		}
		before, e := samples.Copy(d), Check(d)
		for range 2 {
			if f := Check(d); f != e {
				t.Errorf("%v: %d, not %d", d, f, e)
			}
		}
		if !reflect.DeepEqual(samples.Copy(d), before) {
			t.Errorf("%v, not %v", d, before)
		}
	}
}

func TestExamplesOfTheChapter(t *testing.T) {
	for s, want := range map[string]api.Errno{
		"record a { n: u8; b: bytes[n]; }":           api.OK,
		"record a { b: bytes[n]; n: u8; }":           api.ErrType,
		"record a { x: b; } record b { y: a; }":      api.ErrType,
		"record a { n: u8 size b; b: bytes[n]; }":    api.OK,
		"record a { n: u8; } record b { r: rest; } ": api.ErrType,
	} {
		if e := Check(read(t, s)); e != want {
			t.Errorf("%q: %d, not %d", s, e, want)
		}
	}
}
