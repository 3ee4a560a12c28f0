package layout

import (
	"encoding/binary"
	"hash/adler32"
	"hash/crc32"
	"math"
	"strconv"
	"strings"
	"testing"

	"mortise/api"
	"mortise/desc"
	"mortise/parse"
)

const most = 1 << 30 // the greatest limit

func read(t *testing.T, s string) api.Desc {
	t.Helper()
	d, e := desc.Parse(s)
	if e != api.OK {
		t.Fatalf("%q: %d", s, e)
	}
	return d
}

func num(n uint64) api.Node             { return api.Node{N: n} }
func str(s string) api.Node             { return api.Node{S: s} }
func list(l ...api.Node) api.Node       { return api.Node{L: l} }
func one(n uint64, x api.Node) api.Node { return api.Node{N: n, L: []api.Node{x}} }

// wants holds Layout against bytes, and regions as text; and that these bytes are read as the node that is laid out as them again.
func wants(t *testing.T, text string, v api.Node, b string, regions string) {
	t.Helper()
	d := read(t, text)
	s, l, e := Layout(d, v, most)
	if s != b || showRegions(l) != regions || e != api.OK {
		t.Errorf("%s, %s: %q, %s, %d, not %q, %s", text, show(v), s, showRegions(l), e, b, regions)
		return
	}
	x, k, e := parse.Parse(d, s, api.MaxFuel)
	if e != api.OK || showRegions(k) != regions {
		t.Errorf("%s, %q: %d, %s", text, s, e, showRegions(k))
	}
	if again, _, e := Layout(d, x, len(s)); again != s || e != api.OK {
		t.Errorf("%s, %s: %q, %d, not %q", text, show(x), again, e, s)
	}
}

// fails holds that Layout returns an error, and nothing beside it.
func fails(t *testing.T, text string, v api.Node, limit int, want api.Errno) {
	t.Helper()
	if s, l, e := Layout(read(t, text), v, limit); s != "" || l != nil || e != want {
		t.Errorf("%s, %s, %d: %q, %v, %d, not %d", text, show(v), limit, s, l, e, want)
	}
}

func TestP15_1Description(t *testing.T) {
	for _, s := range []string{"", "record a { b: bytes[n]; n: u8; }", "record a { x: b; }", "record a { } record b { x: b; }"} {
		for _, limit := range []int{-1, 0, 99, most + 1} {
			for _, v := range []api.Node{{}, list(num(1)), list(str("x"), num(1))} {
				fails(t, s, v, limit, api.ErrType)
			}
		}
	}
	d := read(t, "record a { n: u8; }")
	d.Recs[0].Fields[0].Width = 3
	if s, l, e := Layout(d, list(num(1)), 9); s != "" || l != nil || e != api.ErrType {
		t.Errorf("%q, %v, %d", s, l, e)
	}
}

func TestP15_1Limit(t *testing.T) {
	text := "record a { n: u8; b: bytes[n]; x: align 4; p: u8 offset q; q: c at p; } record c { y: u16be; o: u8 offset z; z: bytes[3] at o; }"
	v := list(num(2), str("xy"), num(0), num(0), list(num(7), num(0), str("abc")))
	for _, limit := range []int{math.MinInt, -1, most + 1, math.MaxInt} {
		fails(t, text, v, limit, api.ErrArg)
		fails(t, text, num(1), limit, api.ErrArg) // which does not match either
	}
	const size = 11
	for limit := range size {
		fails(t, text, v, limit, api.ErrLimit)
		fails(t, text, num(1), limit, api.ErrType)
	}
	for _, limit := range []int{size, size + 1, most} {
		if s, _, e := Layout(read(t, text), v, limit); s != "\x02xy\x00\x05\x00\x07\x08abc" || e != api.OK {
			t.Errorf("%d: %q, %d", limit, s, e)
		}
	}
	wants(t, "record a { }", list(), "", "")
	if _, _, e := Layout(read(t, "record a { b: bytes[0]; c: c; } record c { x: align 9; }"), list(str(""), list(list())), 0); e != api.OK {
		t.Error(e)
	}
	for text, v := range map[string]api.Node{
		"record a { n: u64le; }": list(num(0)), "record a { b: bytes[8]; }": list(str("abcdefgh")), "record a { r: rest; }": list(str("abcdefgh")), "record a { n: u8; x: align 8; }": list(num(0), num(0)), "record a { c: c; } record c { m: u32be; n: u32be; }": list(list(num(0), num(0))),
		"record a { l: c[4]; } record c { n: u16be; }": list(list(list(num(0)), list(num(0)), list(num(0)), list(num(0)))), "record a { l: c[]; } record c { n: u64be; }": list(list(list(num(0)))), "record a { x: pick 3 { 3: c; }; } record c { n: u64be; }": list(one(3, list(num(0)))),
	} {
		fails(t, text, v, 7, api.ErrLimit)
		if s, _, e := Layout(read(t, text), v, 8); len(s) != 8 || e != api.OK {
			t.Errorf("%s: %q, %d", text, s, e)
		}
	}
	// What takes far more is rejected without being written.
	big := strings.Repeat("x", 1<<20)
	all := make([]api.Node, 1<<16)
	for i := range all {
		all[i] = list(num(1), str(big))
	}
	fails(t, "record a { l: c[]; } record c { n: u8; b: bytes[1048576]; }", list(list(all...)), most, api.ErrLimit)
}

func TestP15_1Matches(t *testing.T) {
	empty, number, text := list(), num(1), str("x")
	full := list(num(1))
	for field, bad := range map[string][]api.Node{
		"u8": {text, full, {N: 1, S: "x"}, {N: 1, L: []api.Node{{}}}}, "u8 size b": {text, full}, "u32be crc b b": {text, full},
		"bytes[1]": {number, full, {N: 1, S: "x"}, {S: "x", L: []api.Node{{}}}}, "align 1": {number, text, full, list(empty)},
		"c":                        {empty, number, text, list(text), list(full), list(num(1), num(2)), {N: 1, L: full.L}, {S: "x", L: full.L}},
		"c[1]":                     {number, text, full, list(empty), list(full, number), list(number, full), {N: 1, L: []api.Node{full}}, {S: "x", L: []api.Node{full}}, list(list(text))},
		"pick 1 { 1: c; }":         {empty, number, one(1, empty), one(1, text), one(0, full), one(2, full), {N: 1, S: "x", L: []api.Node{full}}, {N: 1, L: []api.Node{full, full}}, one(1, list(num(1), num(2)))},
		"pick 1 { 1: c; else e; }": {empty, one(1, empty), one(0, full), one(2, full), one(1, list(num(1), text))}, "pick 1 { else c; }": {one(1, empty), one(0, empty), one(1, list(num(1), text))}, "pick 1 { }": {empty, one(1, empty), one(1, full), one(0, full)},
	} {
		s := "record a { x: " + field + "; b: bytes[0]; } record c { n: u8; } record e { }"
		for _, x := range bad {
			for _, limit := range []int{0, 99} {
				fails(t, s, list(x, str("")), limit, api.ErrType)
			}
		}
		// The record itself has to be one too.
		good := map[string]api.Node{"b": text, "a": empty, "c": full, "p": one(1, full), "u": number}[field[:1]]
		if field == "c[1]" {
			good = list(full)
		}
		for _, v := range []api.Node{empty, list(good), list(good, str(""), empty), {N: 1, L: []api.Node{good, str("")}}, {S: "x", L: []api.Node{good, str("")}}, list(good, num(1)), list(good, full)} {
			fails(t, s, v, 99, api.ErrType)
		}
		if _, _, e := Layout(read(t, s), list(good, str("")), 99); e != api.OK && field != "pick 1 { }" {
			t.Errorf("%s: %d", s, e)
		}
	}
	for _, x := range []api.Node{number, full, {N: 1, S: "x"}, {S: "x", L: []api.Node{{}}}} {
		fails(t, "record a { r: rest; }", list(x), 99, api.ErrType)
	}
	for _, x := range []api.Node{number, text, full, list(empty), list(full, number), {N: 1, L: []api.Node{full}}, {S: "x", L: []api.Node{full}}, list(full, list(text)), list(list(full))} {
		fails(t, "record a { l: c[]; } record c { n: u8; }", list(x), 99, api.ErrType)
	}
	// A number that is chosen decides of what is matched, be it the right one or not.
	pick := "record a { k: u8; x: pick k { 1: c; 2: e; else f; }; } record c { n: u8; } record e { } record f { b: bytes[2]; }"
	fails(t, pick, list(num(1), one(2, full)), 0, api.ErrType)
	fails(t, pick, list(num(1), one(2, empty)), 0, api.ErrLimit)
	fails(t, pick, list(num(1), one(2, empty)), 1, api.ErrType)
	fails(t, pick, list(num(1), one(7, list(str("abc")))), 3, api.ErrLimit)
	fails(t, pick, list(num(7), one(7, list(str("abc")))), 4, api.ErrType)
	wants(t, pick, list(num(1), one(1, full)), "\x01\x01", "0-1:0 1-2:1.0.0")
	wants(t, pick, list(num(2), one(2, empty)), "\x02", "0-1:0")
	wants(t, pick, list(num(7), one(7, list(str("ab")))), "\x07ab", "0-1:0 1-3:1.0.0")
}

func TestP15_1Ints(t *testing.T) {
	const n = 0x8192a3b4c5d6e7f8
	for name, b := range map[string]string{
		"u8": "\xf8", "u16le": "\xf8\xe7", "u16be": "\xe7\xf8", "u32le": "\xf8\xe7\xd6\xc5", "u32be": "\xc5\xd6\xe7\xf8", "u64le": "\xf8\xe7\xd6\xc5\xb4\xa3\x92\x81", "u64be": "\x81\x92\xa3\xb4\xc5\xd6\xe7\xf8",
	} {
		text := "record a { n: " + name + "; }"
		bits := 8 * len(b)
		wants(t, text, list(num(n<<(64-bits)>>(64-bits))), b, "0-"+strconv.Itoa(len(b))+":0")
		wants(t, text, list(num(math.MaxUint64>>(64-bits))), strings.Repeat("\xff", len(b)), "0-"+strconv.Itoa(len(b))+":0")
		wants(t, text, list(num(0)), strings.Repeat("\x00", len(b)), "0-"+strconv.Itoa(len(b))+":0")
		if bits < 64 {
			for _, m := range []uint64{1 << bits, 1<<bits + 1, n, math.MaxUint64} {
				fails(t, text, list(num(m)), 99, api.ErrField)
				fails(t, text, list(num(m)), len(b)-1, api.ErrLimit)
			}
		}
	}
}

func TestP15_1Constants(t *testing.T) {
	text := "record a { m: u8; n: u16be is 300; }"
	wants(t, text, list(num(1), num(300)), "\x01\x01\x2c", "0-1:0 1-3:1")
	for _, m := range []uint64{0, 299, 301, 44, 65535} {
		fails(t, text, list(num(1), num(m)), 99, api.ErrType)
		fails(t, text, list(num(256), num(m)), 99, api.ErrField) // ahead of other numbers that are wrong
		fails(t, text, list(num(1), num(m)), 2, api.ErrLimit)
	}
	fails(t, text, list(num(1), num(65536)), 99, api.ErrField)
	fails(t, "record a { m: u8 is 1; n: u8; }", list(num(2), num(256)), 99, api.ErrField)
	fails(t, "record a { c: c; l: e[1]; } record c { n: u8 is 3; } record e { m: u8; }", list(list(num(2)), list(list(num(256)))), 99, api.ErrField)
	fails(t, "record a { c: c; } record c { n: u8 is 3; }", list(list(num(2))), 99, api.ErrType)
	wants(t, "record a { n: u8 is 0; }", list(num(0)), "\x00", "0-1:0")
	fails(t, "record a { n: u8 is 0; }", list(num(1)), 99, api.ErrType)
	d := read(t, "record a { n: u64be is 0; }")
	d.Recs[0].Fields[0].Const = math.MaxUint64
	if s, _, e := Layout(d, list(num(math.MaxUint64)), 8); s != strings.Repeat("\xff", 8) || e != api.OK {
		t.Errorf("%q, %d", s, e)
	}
}

func TestP15_1Lengths(t *testing.T) {
	bytes := "record a { n: u8; b: bytes[n - 1]; }"
	wants(t, bytes, list(num(3), str("xy")), "\x03xy", "0-1:0 1-3:1")
	wants(t, bytes, list(num(1), str("")), "\x01", "0-1:0")
	array := "record a { n: u8; l: c[n - 1]; } record c { m: u8; }"
	wants(t, array, list(num(3), list(list(num(4)), list(num(5)))), "\x03\x04\x05", "0-1:0 1-2:1.0.0 2-3:1.1.0")
	wants(t, array, list(num(1), list()), "\x01", "0-1:0")
	pick := "record a { n: u8; x: pick n - 1 { else e; }; } record e { }"
	wants(t, pick, list(num(3), one(2, list())), "\x03", "0-1:0")
	for n := range uint64(256) {
		if n != 3 { // of 0 there is no value
			fails(t, bytes, list(num(n), str("xy")), 99, api.ErrType)
			fails(t, array, list(num(n), list(list(num(4)), list(num(5)))), 99, api.ErrType)
			fails(t, pick, list(num(n), one(2, list())), 99, api.ErrType)
		}
	}
	for _, n := range []uint64{1<<62 + 1, 1 << 63, math.MaxUint64} { // which expressions do not have
		fails(t, "record a { n: u64be; b: bytes[0 * n]; }", list(num(n), str("")), 99, api.ErrType)
		fails(t, "record a { n: u64be; l: c[0 & n]; } record c { m: u8; }", list(num(n), list()), 99, api.ErrType)
		fails(t, "record a { n: u64be; x: pick n { else c; }; } record c { }", list(num(n), one(n, list())), 99, api.ErrType)
		wants(t, "record a { n: u64be; b: bytes[0]; }", list(num(n), str("")), string(binary.BigEndian.AppendUint64(nil, n)), "0-8:0")
	}
	wants(t, "record a { n: u64be; x: pick n { else c; }; } record c { }", list(num(1<<62), one(1<<62, list())), "\x40\x00\x00\x00\x00\x00\x00\x00", "0-8:0")
	fails(t, "record a { n: u8; b: bytes[n / 0]; }", list(num(0), str("")), 99, api.ErrType)
	fails(t, "record a { n: u8; b: bytes[n]; m: u8; }", list(num(1), str(""), num(256)), 99, api.ErrField)
	fails(t, "record a { n: u8; b: bytes[n]; m: u8; }", list(num(1), str(""), num(256)), 1, api.ErrLimit)
	// Each record has its own integers.
	wants(t, "record a { n: u8; l: c[2]; b: bytes[n]; } record c { n: u8; b: bytes[n]; }", list(num(1), list(list(num(0), str("")), list(num(2), str("xy"))), str("z")), "\x01\x00\x02xyz", "0-1:0 1-2:1.0.0 2-3:1.1.0 3-5:1.1.1 5-6:2")
	fails(t, "record a { n: u8; l: c[2]; b: bytes[n]; } record c { n: u8; b: bytes[n]; }", list(num(1), list(list(num(0), str("")), list(num(1), str("xy"))), str("z")), 99, api.ErrType)
	// A checksum beside them does not matter.
	wants(t, "record a { s: u32be crc b b; n: u8; b: bytes[n]; }", list(num(0), num(0), str("")), "\x00\x00\x00\x00\x00", "0-4:0 4-5:1")
}

func TestP15_1Sizes(t *testing.T) {
	two := list(list(num(1)), list(num(2)))
	for _, c := range []struct {
		text string
		v    api.Node // of the fields behind the computed number
		b    string
	}{
		{"n: u8 size b; b: bytes[3]; }", list(str("xyz")), "\x03xyz"}, {"n: u8 size b; b: bytes[0]; }", list(str("")), "\x00"}, {"n: u16be size r; r: rest; }", list(str("xyz")), "\x00\x03xyz"}, {"n: u8 size c; c: c; } record c { k: u16be; }", list(list(num(1))), "\x02\x00\x01"},
		{"n: u8 size l; l: c[2]; } record c { k: u16be; }", list(two), "\x04\x00\x01\x00\x02"}, {"n: u8 size l; l: c[]; } record c { k: u16be; }", list(two), "\x04\x00\x01\x00\x02"}, {"n: u8 size l; l: c[]; } record c { k: u16be; }", list(list()), "\x00"}, {"n: u8 size x; x: pick 1 { 1: c; }; } record c { k: u16be; }", list(one(1, list(num(1)))), "\x02\x00\x01"},
		{"n: u8 count l; l: c[2]; } record c { k: u16be; }", list(two), "\x02\x00\x01\x00\x02"}, {"n: u8 count l; l: c[]; } record c { k: u16be; }", list(two), "\x02\x00\x01\x00\x02"}, {"n: u8 count l; l: c[]; } record c { k: u16be; }", list(list()), "\x00"}, {"n: u8 count l; l: c[0]; } record c { k: u16be; }", list(list()), "\x00"},
		{"n: u8 count q; p: u8 offset q; q: c[2] at p; m: u8; } record c { k: u8; }", list(num(9), two, num(7)), "\x02\x03\x07\x01\x02"},
		// Padding counts, and what is placed elsewhere does not.
		{"n: u8 size d; d: d; } record d { k: u8; x: align 4; }", list(list(num(7), num(0))), "\x03\x07\x00\x00"}, {"n: u8 size e; e: e; } record e { p: u8 offset b; b: bytes[3] at p; k: u8; }", list(list(num(9), str("xyz"), num(7))), "\x02\x03\x07xyz"},
		{"n: u8 size q; p: u8 offset q; q: e at p; m: u8; } record e { p: u8 offset b; b: bytes[3] at p; k: u8; }", list(num(9), list(num(9), str("xyz"), num(7)), num(8)), "\x02\x03\x08\x05\x07xyz"},
		// It may be used by what follows.
		{"n: u8 size b; b: bytes[n]; }", list(str("xyz")), "\x03xyz"}, {"n: u8 count l; l: c[n]; b: bytes[n]; } record c { k: u16be; }", list(list(list(num(1))), str("x")), "\x01\x00\x01x"}, {"n: u8 offset q; q: bytes[n] at n; m: u8; }", list(str("xy"), num(7)), "\x02\x07xy"},
	} {
		d := read(t, "record a { "+c.text)
		for _, n := range []uint64{0, 1, 3, 255, 256, math.MaxUint64} { // whatever the node says
			v := list(append([]api.Node{num(n)}, c.v.L...)...)
			if s, _, e := Layout(d, v, len(c.b)); s != c.b || e != api.OK {
				t.Errorf("%s, %d: %q, %d, not %q", c.text, n, s, e, c.b)
			}
		}
		if x, _, e := parse.Parse(d, c.b, 99); e != api.OK {
			t.Errorf("%s: %s, %d", c.text, show(x), e)
		}
	}
	fails(t, "record a { n: u8 size b; b: bytes[n]; c: bytes[n + 1]; }", list(num(9), str("xyz"), str("xyz")), 99, api.ErrType)
	wants(t, "record a { b: bytes[2]; n: u8 size b; m: u8; }", list(str("xy"), num(9), num(7)), "xy\x02\x07", "0-2:0 2-3:1 3-4:2")
}

// TestP15_1Greatest: the greatest number that can be computed for a field, and the next ones.
func TestP15_1Greatest(t *testing.T) {
	bytes := func(n int) api.Node { return list(num(0), str(strings.Repeat("x", n))) }
	records := func(n int) api.Node {
		l := make([]api.Node, n)
		for i := range l {
			l[i] = list(num(7))
		}
		return list(num(0), list(l...))
	}
	behind := func(n int) api.Node { return list(num(0), str(strings.Repeat("x", n-1)), list(num(7))) }
	for text, v := range map[string]func(n int) api.Node{
		"record a { n: u8 size r; r: rest; }": bytes, "record a { n: u8 size b; b: bytes[n]; }": bytes, "record a { n: u8 count l; l: c[]; } record c { m: u8; }": records, "record a { n: u8 size l; l: c[n]; } record c { m: u8; }": records, "record a { n: u8 offset q; b: bytes[n - 1]; q: c at n; } record c { m: u8; }": behind,
	} {
		for _, n := range []int{1, 254, 255} {
			if s, _, e := Layout(read(t, text), v(n), most); e != api.OK || s[0] != byte(n) {
				t.Errorf("%s, %d: %q, %d", text, n, s, e)
			}
		}
		for _, n := range []int{256, 257, 512, 65536} {
			fails(t, text, v(n), most, api.ErrField)
		}
	}
	text := "record a { n: u16be size r; r: rest; }"
	if s, _, e := Layout(read(t, text), bytes(65535), most); e != api.OK || s[:2] != "\xff\xff" {
		t.Errorf("%d, %d bytes", e, len(s))
	}
	fails(t, text, bytes(65536), most, api.ErrField)
}

func TestP15_1Aligns(t *testing.T) {
	wants(t, "record a { n: u8; x: align 4; m: u8; }", list(num(1), num(0), num(2)), "\x01\x00\x00\x00\x02", "0-1:0 1-4:1 4-5:2")
	wants(t, "record a { x: align 4; m: u32be; y: align 4; }", list(num(0), num(2), num(0)), "\x00\x00\x00\x02", "0-4:1")
	wants(t, "record a { b: bytes[5]; x: align 3; y: align 1; }", list(str("abcde"), num(0), num(0)), "abcde\x00", "0-5:0 5-6:1")
	wants(t, "record a { n: u8; x: align 4096; }", list(num(1), num(0)), "\x01"+strings.Repeat("\x00", 4095), "0-1:0 1-4096:1")
	// The multiple is one of the offset in the whole, wherever the record is placed.
	wants(t, "record a { n: u8; l: c[2]; } record c { k: u8; x: align 4; y: u8; }", list(num(1), list(list(num(2), num(0), num(3)), list(num(4), num(0), num(5)))), "\x01\x02\x00\x00\x03\x04\x00\x00\x05", "0-1:0 1-2:1.0.0 2-4:1.0.1 4-5:1.0.2 5-6:1.1.0 6-8:1.1.1 8-9:1.1.2")
	wants(t, "record a { n: u16be; p: u8 offset q; q: c at p; } record c { x: align 4; y: u8; }", list(num(1), num(0), list(num(0), num(3))), "\x00\x01\x03\x00\x03", "0-2:0 2-3:1 3-4:2.0 4-5:2.1")
}

// TestP15_1Order: fields with an At are placed behind everything else, in the order in which they are met, and what is inside them behind these.
func TestP15_1Order(t *testing.T) {
	wants(t, "record a { p: u8 offset q; q: c at p; r: u8 offset s; s: bytes[1] at r; } record c { p: u8 offset q; q: bytes[2] at p; }", list(num(0), list(num(0), str("xy")), num(0), str("z")), "\x02\x03\x04zxy", "0-1:0 1-2:2 2-3:1.0 3-4:3 4-6:1.1")
	// The numbers may be in another order than the fields, and records before an At are gone through first.
	wants(t, "record a { r: u8 offset s; p: u8 offset q; q: bytes[2] at p; s: bytes[1] at r; t: u8; }", list(num(0), num(0), str("xy"), str("z"), num(7)), "\x05\x03\x07xyz", "0-1:0 1-2:1 2-3:4 3-5:2 5-6:3")
	wants(t, "record a { c: c; p: u8 offset q; q: bytes[1] at p; l: c[2]; x: pick 1 { 1: c; }; z: u8; } record c { o: u8 offset b; b: bytes[1] at o; }",
		list(list(num(0), str("a")), num(0), str("b"), list(list(num(0), str("c")), list(num(0), str("d"))), one(1, list(num(0), str("e"))), num(9)), "\x06\x07\x08\x09\x0a\x09abcde",
		"0-1:0.0 1-2:1 2-3:3.0.0 3-4:3.1.0 4-5:4.0.0 5-6:5 6-7:0.1 7-8:2 8-9:3.0.1 9-10:3.1.1 10-11:4.0.1")
	// Three levels, of which each waits for the whole one before.
	deep := "record a { p: u8 offset q; q: b[2] at p; o: u8 offset r; r: b at o; } record b { p: u8 offset q; q: pick 1 { 1: c; } at p; } record c { p: u8 offset q; q: bytes[1] at p; }"
	leaf := func(s string) api.Node { return list(num(0), one(1, list(num(0), str(s)))) }
	wants(t, deep, list(num(0), list(leaf("x"), leaf("y")), num(0), leaf("z")), "\x02\x04\x05\x06\x07\x08\x09\x0axyz",
		"0-1:0 1-2:2 2-3:1.0.0 3-4:1.1.0 4-5:3.0 5-6:1.0.1.0.0 6-7:1.1.1.0.0 7-8:3.1.0.0 8-9:1.0.1.0.1 9-10:1.1.1.0.1 10-11:3.1.0.1")
	// All kinds, with nothing in them: they are at the end all the same.
	for kind, v := range map[string]api.Node{"bytes[0]": str(""), "e": list(), "c[0]": list(), "pick 1 { 1: e; }": one(1, list())} {
		wants(t, "record a { p: u8 offset q; q: "+kind+" at p; n: u16be; } record c { n: u8; } record e { }", list(num(0), v, num(7)), "\x03\x00\x07", "0-1:0 1-3:2")
	}
}

// TestP15_1Shared: what is shared is placed like everything else, but has no regions, nor has anything inside.
func TestP15_1Shared(t *testing.T) {
	wants(t, "record a { p: u8 offset q; q: bytes[2] at p shared; o: u8 offset r; r: bytes[2] at o; s: u8; }", list(num(0), str("xy"), num(0), str("xy"), num(9)), "\x03\x05\x09xyxy", "0-1:0 1-2:2 2-3:4 5-7:3")
	wants(t, "record a { p: u8 offset q; q: c at p shared; o: u8 offset r; r: c at o; } record c { n: u8; x: align 2; p: u8 offset q; q: d at p; l: d[1]; k: pick 1 { 1: d; }; } record d { b: bytes[1]; n: u8; }",
		list(num(0), list(num(1), num(0), num(0), list(str("a"), num(2)), list(list(str("b"), num(3))), one(1, list(str("c"), num(4)))), num(0), list(num(5), num(0), num(0), list(str("d"), num(6)), list(list(str("e"), num(7))), one(1, list(str("f"), num(8))))),
		"\x02\x09\x01\x00\x0fb\x03c\x04\x05\x11e\x07f\x08a\x02d\x06",
		"0-1:0 1-2:2 9-10:3.0 10-11:3.2 11-12:3.4.0.0 12-13:3.4.0.1 13-14:3.5.0.0 14-15:3.5.0.1 17-18:3.3.0 18-19:3.3.1")
}

func TestP15_1Sums(t *testing.T) {
	crc := func(s string) string {
		return string(binary.BigEndian.AppendUint32(nil, crc32.ChecksumIEEE([]byte(s))))
	}
	adler := func(s string) string {
		return string(binary.LittleEndian.AppendUint32(nil, adler32.Checksum([]byte(s))))
	}
	wants(t, "record a { x: bytes[4]; s: u32be crc x x; t: u32le adler x x; }", list(str("1234"), num(0), num(math.MaxUint64)), "1234"+crc("1234")+adler("1234"), "0-4:0 4-8:1 8-12:2")
	wants(t, "record a { x: bytes[0]; s: u32be crc x x; t: u32le adler x x; }", list(str(""), num(1), num(1)), crc("")+adler(""), "0-4:1 4-8:2")
	wants(t, "record a { s: u32be crc n r; n: u8 size r; r: rest; }", list(num(0), num(0), str("xyz")), crc("\x03xyz")+"\x03xyz", "0-4:0 4-5:1 5-8:2")
	wants(t, "record a { v: u8; w: u8; x: align 4; z: u8; s: u32be crc w z; y: u8; }", list(num(1), num(2), num(0), num(3), num(0), num(4)), "\x01\x02\x00\x00\x03"+crc("\x02\x00\x00\x03")+"\x04", "0-1:0 1-2:1 2-4:2 4-5:3 5-9:4 9-10:5")
	// What stands elsewhere in between is not covered, but where it stands is.
	wants(t, "record a { x: u8; p: u8 offset q; q: bytes[2] at p; z: u8; s: u32le adler x z; }", list(num(1), num(0), str("xy"), num(2), num(0)), "\x01\x07\x02"+adler("\x01\x07\x02")+"xy", "0-1:0 1-2:1 2-3:3 3-7:4 7-9:2")
	// Checksums inside come first: three levels, and records of a list; and those inside what stands elsewhere.
	inner := "c" + crc("c")
	middle := inner + inner + adler(inner+inner)
	three := "record a { s: u32be crc b d; b: b; d: u8; } record b { l: c[2]; s: u32le adler l l; } record c { b: bytes[1]; s: u32be crc b b; }"
	wants(t, three, list(num(0), list(list(list(str("c"), num(0)), list(str("c"), num(0))), num(0)), num(7)), crc(middle+"\x07")+middle+"\x07", "0-4:0 4-5:1.0.0.0 5-9:1.0.0.1 9-10:1.0.1.0 10-14:1.0.1.1 14-18:1.1 18-19:2")
	pick := "record a { x: pick 1 { 1: c; }; s: u32le adler x x; } record c { b: bytes[1]; s: u32be crc b b; }"
	wants(t, pick, list(one(1, list(str("c"), num(0))), num(0)), inner+adler(inner), "0-1:0.0.0 1-5:0.0.1 5-9:1")
	elsewhere := "record a { p: u8 offset q; q: b at p; n: u8; s: u32be crc n n; } record b { c: c; s: u32le adler c c; } record c { b: bytes[1]; s: u32be crc b b; }"
	wants(t, elsewhere, list(num(0), list(list(str("c"), num(0)), num(0)), num(7), num(0)), "\x06\x07"+crc("\x07")+inner+adler(inner), "0-1:0 1-2:2 2-6:3 6-7:1.0.0 7-11:1.0.1 11-15:1.1")
	fill := "record a { s: u32be crc l l; l: c[]; } record c { b: bytes[1]; s: u32be crc b b; n: u8; }"
	wants(t, fill, list(num(0), list(list(str("c"), num(0), num(1)), list(str("c"), num(0), num(2)))), crc(inner+"\x01"+inner+"\x02")+inner+"\x01"+inner+"\x02", "0-4:0 4-5:1.0.0 5-9:1.0.1 9-10:1.0.2 10-11:1.1.0 11-15:1.1.1 15-16:1.1.2")
}

func TestExamplesOfTheDocument(t *testing.T) {
	wants(t, "record a { n: u8 size b; b: bytes[n]; }", list(num(0), str("xy")), "\x02\x78\x79", "0-1:0 1-3:1")
	wants(t, "record a { n: u8 size b; b: bytes[n]; p: u8 offset q; q: c at p; } record c { x: u8; }", list(num(0), str("xy"), num(0), list(num(7))), "\x02\x78\x79\x04\x07", "0-1:0 1-3:1 3-4:2 4-5:3.0")
}
