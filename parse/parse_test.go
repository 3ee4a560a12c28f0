package parse

import (
	"encoding/binary"
	"hash/adler32"
	"hash/crc32"
	"math"
	"strconv"
	"strings"
	"testing"

	"mortise/api"
	"mortise/desc"
)

func read(t *testing.T, s string) api.Desc {
	t.Helper()
	d, e := desc.Parse(s)
	if e != api.OK {
		t.Fatalf("%q: %d", s, e)
	}
	return d
}

// wants holds Parse against a node and regions as text.
func wants(t *testing.T, text string, b string, node string, regions string) {
	t.Helper()
	x, l, e := Parse(read(t, text), b, api.MaxFuel)
	if show(x) != node || showRegions(l) != regions || e != api.OK {
		t.Errorf("%s, %.100q: %s, %s, %d, not %s, %s", text, b, show(x), showRegions(l), e, node, regions)
	}
}

// fails holds that Parse returns an error, and nothing beside it.
func fails(t *testing.T, text string, b string, fuel int, want api.Errno) {
	t.Helper()
	x, l, e := Parse(read(t, text), b, fuel)
	if e != want || x.N != 0 || x.S != "" || x.L != nil || l != nil {
		t.Errorf("%s, %.100q: %v, %v, %d, not %d", text, b, x, l, e, want)
	}
}

func wantsError(t *testing.T, text string, b string, want api.Errno) {
	t.Helper()
	fails(t, text, b, api.MaxFuel, want)
}

func TestP14_1Description(t *testing.T) {
	for _, s := range []string{"", "record a { b: bytes[n]; n: u8; }", "record a { x: b; }", "record a { } record b { x: b; }"} {
		for _, fuel := range []int{0, 1, api.MaxFuel, -1, api.MaxFuel + 1} { // R2: the description is asked first
			fails(t, s, "\x01x", fuel, api.ErrType)
		}
	}
	if x, l, e := Parse(api.Desc{Recs: []api.Rec{{Name: "a", Fields: []api.Field{{Name: "x"}}}}}, "", 1); show(x) != "0" || l != nil || e != api.ErrType {
		t.Errorf("%v, %v, %d", x, l, e)
	}
}

func TestP14_1Fuel(t *testing.T) {
	for _, fuel := range []int{math.MinInt, -1, api.MaxFuel + 1, math.MaxInt} {
		fails(t, "record a { }", "", fuel, api.ErrArg)
		fails(t, "record a { n: u8; }", "", fuel, api.ErrArg)
	}
	for text, c := range map[string]struct {
		b    string
		fuel int // what is just enough
	}{
		"record a { }": {"x", 0}, "record a { n: u8; }": {"\x01", 1}, "record a { n: u8; b: bytes[n]; }": {"\x02xy", 2}, "record a { r: rest; }": {"xyz", 1}, "record a { x: align 4; }": {"", 1},
		"record a { b: b; } record b { }": {"", 1}, "record a { b: b; c: u8; } record b { n: u8; m: u8; }": {"\x01\x02\x03", 4},
		"record a { l: c[3]; } record c { n: u8; }": {"xyz", 7}, "record a { l: c[0]; } record c { n: u8; }": {"", 1}, "record a { l: c[]; } record c { n: u8; m: u8; }": {"wxyz", 7}, "record a { l: c[]; } record c { n: u8; } ": {"", 1},
		"record a { p: pick 1 { 1: c; }; } record c { }": {"", 1}, "record a { p: pick 1 { 1: c; }; } record c { n: u8; b: bytes[0]; }": {"x", 3}, "record a { p: u8 offset q; q: c at p shared; } record c { n: u8; }": {"\x00", 3},
	} {
		d := read(t, text)
		x, l, e := Parse(d, c.b, c.fuel)
		if e != api.OK {
			t.Errorf("%s: %d", text, e)
		}
		for fuel := range c.fuel {
			fails(t, text, c.b, fuel, api.ErrFuel)
		}
		for _, fuel := range []int{c.fuel + 1, 99, api.MaxFuel} {
			if y, k, f := Parse(d, c.b, fuel); show(x) != show(y) || showRegions(l) != showRegions(k) || f != api.OK {
				t.Errorf("%s, %d: %v, %v, %d", text, fuel, y, k, f)
			}
		}
	}
}

// TestP14_1MostFuel: the greatest fuel is enough for so many records, and no more.
func TestP14_1MostFuel(t *testing.T) {
	d := read(t, "record a { n: u32be; l: c[n]; r: u8; } record c { n: u8; m: u8; b: bytes[m]; }")
	for _, c := range []struct {
		n, fuel int
		e       api.Errno
	}{{24999, api.MaxFuel, api.OK}, {24999, 3 + 4*24999, api.OK}, {24999, 2 + 4*24999, api.ErrFuel}, {25000, api.MaxFuel, api.ErrFuel}, {1 << 31, api.MaxFuel, api.ErrFuel}} {
		b := string(binary.BigEndian.AppendUint32(nil, uint32(c.n))) + strings.Repeat("\x01\x01x", 25001)
		x, l, e := Parse(d, b, c.fuel)
		if e != c.e || e == api.OK && (len(x.L[1].L) != c.n || len(l) != 2+3*c.n) {
			t.Errorf("%d, %d: %d, %d regions", c.n, c.fuel, e, len(l))
		}
	}
}

func TestP14_1Ints(t *testing.T) {
	bytes := "\x81\x92\xa3\xb4\xc5\xd6\xe7\xf8"
	for name, n := range map[string]uint64{
		"u8": 0x81, "u16le": 0x9281, "u16be": 0x8192, "u32le": 0xb4a39281, "u32be": 0x8192a3b4, "u64le": 0xf8e7d6c5b4a39281, "u64be": 0x8192a3b4c5d6e7f8,
	} {
		width, _ := strconv.Atoi(strings.Trim(name, "ulbe"))
		width /= 8
		text := "record a { n: " + name + "; }"
		wants(t, text, bytes[:width], "{"+strconv.FormatUint(n, 10)+"}", "0-"+strconv.Itoa(width)+":0")
		wants(t, text, bytes[:width]+"more", "{"+strconv.FormatUint(n, 10)+"}", "0-"+strconv.Itoa(width)+":0")
		for i := range width {
			wantsError(t, text, bytes[:i], api.ErrCut)
		}
		if n <= 1<<62 {
			is := "record a { n: " + name + " is " + strconv.FormatUint(n, 10) + "; }"
			wants(t, is, bytes[:width], "{"+strconv.FormatUint(n, 10)+"}", "0-"+strconv.Itoa(width)+":0")
			for i := range width {
				wantsError(t, is, bytes[:i], api.ErrCut)
				wantsError(t, is, bytes[:i]+"\x00"+bytes[i+1:width], api.ErrForm)
			}
		}
	}
	d := read(t, "record a { n: u64be is 0; }")
	d.Recs[0].Fields[0].Const = math.MaxUint64
	if x, _, e := Parse(d, "\xff\xff\xff\xff\xff\xff\xff\xff", 1); e != api.OK || x.L[0].N != math.MaxUint64 {
		t.Errorf("%v, %d", x, e)
	}
	if _, _, e := Parse(d, "\xff\xff\xff\xff\xff\xff\xff\xfe", 1); e != api.ErrForm {
		t.Error(e)
	}
}

func TestP14_1Bytes(t *testing.T) {
	text := "record a { n: u8; b: bytes[n]; }"
	wants(t, text, "\x02xyz", `{2 "xy"}`, "0-1:0 1-3:1")
	wants(t, text, "\x00", "{0 0}", "0-1:0")
	wants(t, text, "\x03xyz", `{3 "xyz"}`, "0-1:0 1-4:1")
	wantsError(t, text, "\x04xyz", api.ErrCut)
	wantsError(t, text, "", api.ErrCut)
	wants(t, "record a { n: u8; m: u8; b: bytes[m * 2 - n]; c: bytes[n]; }", "\x01\x02xyzw", `{1 2 "xyz" "w"}`, "0-1:0 1-2:1 2-5:2 5-6:3")
	wantsError(t, "record a { n: u8; b: bytes[n - 1]; }", "\x00", api.ErrForm)
	wantsError(t, "record a { n: u8; b: bytes[1 / n]; }", "\x00", api.ErrForm)
	for n, e := range map[uint64]api.Errno{1 << 31: api.ErrCut, 1<<62 - 1: api.ErrCut, 1 << 62: api.ErrCut, 1<<62 + 1: api.ErrForm, 1 << 63: api.ErrForm, math.MaxUint64: api.ErrForm, math.MaxUint64 - 8: api.ErrForm} {
		b := string(binary.BigEndian.AppendUint64(nil, n))
		wantsError(t, "record a { n: u64be; b: bytes[n]; }", b, e)
		wantsError(t, "record a { x: u8; n: u64be; b: bytes[n]; }", "x"+b, e)
	}
	// Only the numbers that are used need be ones of expressions.
	wants(t, "record a { n: u64be; m: u8; b: bytes[m]; }", "\xff\xff\xff\xff\xff\xff\xff\xff\x01x", `{18446744073709551615 1 "x"}`, "0-8:0 8-9:1 9-10:2")
	// A record's names are its own, and those of each of its repetitions are read anew.
	wants(t, "record a { n: u8; c: c; b: bytes[n]; } record c { n: u8; b: bytes[n]; }", "\x01\x02xyz", `{1 {2 "xy"} "z"}`, "0-1:0 1-2:1.0 2-4:1.1 4-5:2")
	wants(t, "record a { l: c[3]; } record c { n: u8; b: bytes[n]; }", "\x01x\x00\x02yz", `{{{1 "x"} {0 0} {2 "yz"}}}`, "0-1:0.0.0 1-2:0.0.1 2-3:0.1.0 3-4:0.2.0 4-6:0.2.1")
}

func TestP14_1Rest(t *testing.T) {
	wants(t, "record a { r: rest; }", "xyz", `{"xyz"}`, "0-3:0")
	wants(t, "record a { r: rest; }", "", "{0}", "")
	wants(t, "record a { n: u8; r: rest; }", "\x07xyz", `{7 "xyz"}`, "0-1:0 1-4:1")
	wants(t, "record a { n: u8; r: rest; }", "\x07", "{7 0}", "0-1:0")
}

func TestP14_1Records(t *testing.T) {
	wants(t, "record a { }", "xyz", "0", "")
	wants(t, "record a { x: b; y: b; } record b { }", "", "{0 0}", "")
	wants(t, "record a { x: b; n: u8; y: b; } record b { n: u8; c: c; } record c { n: u8; m: u8; }", "\x01\x02\x03\x04\x05\x06\x07", "{{1 {2 3}} 4 {5 {6 7}}}", "0-1:0.0 1-2:0.1.0 2-3:0.1.1 3-4:1 4-5:2.0 5-6:2.1.0 6-7:2.1.1")
	wantsError(t, "record a { x: b; } record b { n: u16be; }", "x", api.ErrCut)
	chain, path := "record r0 { x: r1; }", "0"
	for i := 1; i < 11; i++ {
		chain += " record r" + strconv.Itoa(i) + " { x: r" + strconv.Itoa(i+1) + "; }"
		path += ".0"
	}
	wants(t, chain+" record r11 { n: u8; }", "\x05", strings.Repeat("{", 12)+"5"+strings.Repeat("}", 12), "0-1:"+path+".0")
}

func TestP14_1Arrays(t *testing.T) {
	text := "record a { n: u8; l: c[n]; m: u8; } record c { x: u8; y: u16be; }"
	wants(t, text, "\x02\x01\x00\x02\x03\x01\x04\x05", "{2 {{1 2} {3 260}} 5}", "0-1:0 1-2:1.0.0 2-4:1.0.1 4-5:1.1.0 5-7:1.1.1 7-8:2")
	wants(t, text, "\x00\x05", "{0 0 5}", "0-1:0 1-2:2")
	for n := range 7 {
		wantsError(t, text, "\x02\x01\x00\x02\x03\x01\x04\x05"[:n+1], api.ErrCut)
	}
	wantsError(t, "record a { n: u8; l: c[2 - n]; } record c { x: u8; }", "\x03xyz", api.ErrForm)
	// The greatest numbers end where the bytes do, or the fuel.
	d := read(t, "record a { n: u64be; l: c[n]; } record c { x: u8; b: bytes[9]; } ")
	for n, want := range map[uint64]api.Errno{1 << 62: api.ErrCut, 1<<62 + 1: api.ErrForm, math.MaxUint64: api.ErrForm} {
		if _, _, e := Parse(d, string(binary.BigEndian.AppendUint64(nil, n))+"xyz", api.MaxFuel); e != want {
			t.Errorf("%d: %d", n, e)
		}
	}
	fails(t, "record a { l: c[4611686018427387904]; } record c { x: u8; }", strings.Repeat("x", 60000), api.MaxFuel, api.ErrFuel)
}

func TestP14_1Fills(t *testing.T) {
	text := "record a { n: u8; l: c[]; } record c { x: u8; b: bytes[x]; }"
	wants(t, text, "\x09", "{9 0}", "0-1:0")
	wants(t, text, "\x09\x00\x02xy\x01z", `{9 {{0 0} {2 "xy"} {1 "z"}}}`, "0-1:0 1-2:1.0.0 2-3:1.1.0 3-5:1.1.1 5-6:1.2.0 6-7:1.2.1")
	wantsError(t, text, "\x09\x00\x03xy", api.ErrCut)
	wantsError(t, "record a { l: c[]; } record c { x: u16le; }", "xyz", api.ErrCut)
	wants(t, "record a { l: c[]; } record c { x: u16le; }", "", "{0}", "")
}

func TestP14_1Picks(t *testing.T) {
	text := "record a { k: u8; x: pick k & 7 { 1: c; 0: d; 3: c; else e; }; y: u8; } record c { n: u16be; } record d { } record e { n: u8; m: u8; }"
	wants(t, text, "\x01\x01\x02\x03", "{1 1{{258}} 3}", "0-1:0 1-3:1.0.0 3-4:2")
	wants(t, text, "\x09\x01\x02\x03", "{9 1{{258}} 3}", "0-1:0 1-3:1.0.0 3-4:2")
	wants(t, text, "\x03\x01\x02\x03", "{3 3{{258}} 3}", "0-1:0 1-3:1.0.0 3-4:2")
	wants(t, text, "\x00\x04", "{0 {0} 4}", "0-1:0 1-2:2")
	wants(t, text, "\x07\x04\x05\x06", "{7 7{{4 5}} 6}", "0-1:0 1-2:1.0.0 2-3:1.0.1 3-4:2")
	wantsError(t, text, "\x07\x04", api.ErrCut)
	alone := "record a { k: u8; x: pick k - 1 { 1: c; }; } record c { }"
	wants(t, alone, "\x02", "{2 1{0}}", "0-1:0")
	wantsError(t, alone, "\x01", api.ErrForm)
	wantsError(t, alone, "\x03", api.ErrForm)
	wantsError(t, alone, "\x00", api.ErrForm) // its expression has no value
	wantsError(t, "record a { x: pick 1 { }; }", "", api.ErrForm)
	wants(t, "record a { x: pick 4611686018427387904 { 0: c; 4611686018427387904: d; }; } record c { n: u8; } record d { }", "", "{4611686018427387904{0}}", "")
}

func TestP14_1Aligns(t *testing.T) {
	text := "record a { n: u8; x: align 4; y: u8; }"
	wants(t, text, "\x01\x00\x00\x00\x02", "{1 0 2}", "0-1:0 1-4:1 4-5:2")
	for i := 1; i < 4; i++ {
		b := []byte("\x01\x00\x00\x00\x02")
		b[i] = 0x80
		wantsError(t, text, string(b), api.ErrForm)
		wantsError(t, text, string(b[:3]), api.ErrCut)
	}
	wants(t, "record a { x: align 4; y: u8; }", "\x02", "{0 2}", "0-1:1")
	wants(t, "record a { b: bytes[8]; x: align 4; y: u8; }", "abcdefgh\x02", `{"abcdefgh" 0 2}`, "0-8:0 8-9:2")
	wants(t, "record a { b: bytes[5]; x: align 1; y: u8; }", "abcde\x02", `{"abcde" 0 2}`, "0-5:0 5-6:2")
	wants(t, "record a { b: bytes[5]; x: align 3; }", "abcde\x00", `{"abcde" 0}`, "0-5:0 5-6:1")
	wants(t, "record a { n: u8; x: align 4096; }", "\x01"+strings.Repeat("\x00", 4095), "{1 0}", "0-1:0 1-4096:1")
	wantsError(t, "record a { n: u8; x: align 4096; }", "\x01"+strings.Repeat("\x00", 4094), api.ErrCut)
	// The multiple is one of the offset in the bytes, wherever the record stands.
	wants(t, "record a { n: u8; l: c[2]; } record c { k: u8; x: align 4; y: u8; }", "\x01\x02\x00\x00\x03\x04\x00\x00\x05", "{1 {{2 0 3} {4 0 5}}}", "0-1:0 1-2:1.0.0 2-4:1.0.1 4-5:1.0.2 5-6:1.1.0 6-8:1.1.1 8-9:1.1.2")
	wants(t, "record a { p: u8 offset q; q: c at p; } record c { x: align 4; y: u8; }", "\x02\x09\x00\x00\x03", "{2 {0 3}}", "0-1:0 2-4:1.0 4-5:1.1")
}

func TestP14_1At(t *testing.T) {
	text := "record a { p: u8 offset q; q: c at p; r: u8; } record c { x: u16be; }"
	wants(t, text, "\x02\x09\x01\x02", "{2 {258} 9}", "0-1:0 1-2:2 2-4:1.0")
	wants(t, text, "\x03\x09zz\x01", "{3 {31233} 9}", "0-1:0 1-2:2 3-5:1.0")
	wantsError(t, text, "\x00\x09\x01\x02", api.ErrOverlap)
	wantsError(t, text, "\x01\x09\x01\x02", api.ErrOverlap) // the field behind it stands there
	wantsError(t, text, "\x03\x09\x01\x02", api.ErrCut)
	wantsError(t, text, "\x04\x09\x01\x02", api.ErrCut)
	wantsError(t, text, "\x05\x09\x01\x02", api.ErrCut)
	// It may begin where the bytes end, but not behind.
	for kind, node := range map[string]string{"bytes[0]": "0", "c": "0", "d[0]": "0", "pick 1 { 1: c; }": "1{0}"} {
		text := "record a { p: u8 offset q; q: " + kind + " at p; } record c { } record d { n: u8; }"
		wants(t, text, "\x01", "{1 "+node+"}", "0-1:0")
		wants(t, text, "\x00", "{0 "+node+"}", "0-1:0") // nothing is claimed there
		wantsError(t, text, "\x02", api.ErrCut)
	}
	for _, n := range []uint64{9, 1 << 31, 1 << 62, 1<<62 + 1, 1 << 63, math.MaxUint64 - 7, math.MaxUint64} {
		wantsError(t, "record a { p: u64be offset q; q: bytes[0] at p; }", string(binary.BigEndian.AppendUint64(nil, n)), api.ErrCut)
	}
	// All kinds; a field that stands elsewhere does not move those behind it, and may be ahead of all.
	wants(t, "record a { o: bytes[2]; p: u8 offset q; q: d[2] at p; r: u8; s: u8; } record d { n: u8; }", "vw\x05xy\x01\x02", `{"vw" 5 {{1} {2}} 120 121}`, "0-2:0 2-3:1 3-4:3 4-5:4 5-6:2.0.0 6-7:2.1.0")
	wants(t, "record a { p: u8 offset q; q: bytes[2] at p; s: u8 offset r; r: pick 1 { 1: b; } at s; t: u8; } record b { n: u8; }", "\x03\x05\x07xy\x09", `{3 "xy" 5 1{{9}} 7}`, "0-1:0 1-2:2 2-3:4 3-5:1 5-6:3.0.0")
	// Within what stands elsewhere, records and fields go on from there, and what ends there does not matter outside.
	wants(t, "record a { p: u8 offset q; n: u8; q: c at p; m: u8; } record c { x: u8; o: u8 offset b; b: bytes[1] at o; y: u8; }", "\x04\x01\x02z\x05\x03\x06", `{4 1 {5 3 "z" 6} 2}`, "0-1:0 1-2:1 2-3:3 3-4:2.2 4-5:2.0 5-6:2.1 6-7:2.3")
	// A record behind itself.
	wants(t, "record a { x: b; n: u8; } record b { p: u8 offset q; q: bytes[2] at p; }", "\x02\x07xy", `{{2 "xy"} 7}`, "0-1:0.0 1-2:1 2-4:0.1")
}

func TestP14_1Shared(t *testing.T) {
	text := "record a { p: u8 offset q; q: c at p shared; r: u8; } record c { x: u16be; }"
	wants(t, text, "\x01\x09\x01\x02", "{1 {2305} 9}", "0-1:0 1-2:2")
	wants(t, text, "\x00\x09\x01\x02", "{0 {9} 9}", "0-1:0 1-2:2")
	wantsError(t, text, "\x03\x09\x01\x02", api.ErrCut)
	wants(t, "record a { p: u8 offset q; q: bytes[3] at p shared; r: u8; }", "\x00\x09\x01", `{0 "\x00\t\x01" 9}`, "0-1:0 1-2:2")
	// Nothing inside is claimed, be it shared or not, and however deep it is.
	wants(t, "record a { p: u8 offset q; q: c at p shared; r: u8; } record c { o: u8 offset b; b: d at o; k: pick 1 { 1: d; }; l: d[2]; x: align 4; } record d { n: u8; m: bytes[n]; }",
		"\x00\x00\x01z\x00\x00\x00\x00", `{0 {0 {0 0} 1{{0 0}} {{1 "z"} {0 0}} 0} 0}`, "0-1:0 1-2:2")
	// Beside it, everything is: of two that claim the same bytes one has to be shared.
	two := "record a { p: u8 offset q; q: bytes[2] at p; o: u8 offset s; s: bytes[2] at o; }"
	wantsError(t, two, "\x02\x03wxyz", api.ErrOverlap)
	wants(t, strings.Replace(two, "p;", "p shared;", 1), "\x02\x03wxyz", `{2 "wx" 3 "xy"}`, "0-1:0 1-2:2 3-5:3")
	wants(t, strings.Replace(two, "o;", "o shared;", 1), "\x02\x03wxyz", `{2 "wx" 3 "xy"}`, "0-1:0 1-2:2 2-4:1")
	// What is behind it is claimed again.
	wantsError(t, "record a { p: u8 offset q; q: c at p shared; o: u8 offset s; s: c at o; } record c { n: u8; }", "\x00\x00", api.ErrOverlap)
	wantsError(t, "record a { l: c[2]; } record c { p: u8 offset q; q: bytes[1] at p shared; o: u8 offset s; s: bytes[1] at o; }", "\x01\x04\x01\x04z", api.ErrOverlap)
	wants(t, "record a { l: c[2]; } record c { p: u8 offset q; q: bytes[1] at p shared; o: u8 offset s; s: bytes[1] at o; }", "\x04\x04\x04\x05yz", `{{{4 "y" 4 "y"} {4 "y" 5 "z"}}}`, "0-1:0.0.0 1-2:0.0.2 2-3:0.1.0 3-4:0.1.2 4-5:0.0.3 5-6:0.1.3")
}

func TestP14_1Sizes(t *testing.T) {
	for _, c := range []struct {
		text, b string // the first byte is the computed number
	}{
		{"record a { n: u8 size b; b: bytes[3]; }", "\x03xyz"}, {"record a { n: u8 size b; m: u8; b: bytes[m]; }", "\x00\x00"}, {"record a { n: u8 size r; r: rest; }", "\x04wxyz"}, {"record a { n: u8 size c; c: c; } record c { x: u16le; b: bytes[1]; }", "\x03xyz"},
		{"record a { n: u8 size l; l: c[2]; } record c { x: u16le; }", "\x04wxyz"}, {"record a { n: u8 size l; l: c[]; } record c { x: u16le; }", "\x04wxyz"}, {"record a { n: u8 size k; k: pick 5 { 5: c; }; } record c { x: u16le; }", "\x02wxyz"},
		// Only what is in the row counts, not what stands elsewhere.
		{"record a { n: u8 size c; c: c; } record c { p: u8 offset q; q: bytes[3] at p; x: u8; }", "\x02\x03\x00xyz"}, {"record a { n: u8 size q; p: u8 offset q; q: bytes[3] at p; x: u8; }", "\x03\x03\x00xyz"},
		{"record a { n: u8 size c; c: c; } record c { x: u8; y: align 4; }", "\x03\x03\x00\x00"},
		{"record a { n: u8 count l; l: c[3]; } record c { x: u16le; }", "\x03uvwxyz"}, {"record a { n: u8 count l; l: c[0]; } record c { x: u16le; }", "\x00uvwxyz"}, {"record a { n: u8 count l; l: c[]; } record c { x: u16le; }", "\x03uvwxyz"},
		{"record a { n: u8 count l; l: c[]; } record c { x: u8; }", "\x00"}, {"record a { n: u8 count q; p: u8 offset q; q: c[2] at p; x: u8; } record c { x: u8; }", "\x02\x03\x00xyz"},
	} {
		d := read(t, c.text)
		if _, _, e := Parse(d, c.b, 99); e != api.OK {
			t.Errorf("%s: %d", c.text, e)
		}
		for n := range 256 {
			if n != int(c.b[0]) {
				wantsError(t, c.text, string([]byte{byte(n)})+c.b[1:], api.ErrForm)
			}
		}
	}
	wants(t, "record a { b: bytes[2]; n: u16be size b; }", "xy\x00\x02", `{"xy" 2}`, "0-2:0 2-4:1")
	wantsError(t, "record a { b: bytes[2]; n: u16be size b; }", "xy\x01\x02", api.ErrForm)
	wantsError(t, "record a { b: bytes[2]; n: u64be size b; }", "xy\x80\x00\x00\x00\x00\x00\x00\x02", api.ErrForm)
}

func TestP14_1Sums(t *testing.T) {
	crc := func(s string) string {
		return string(binary.BigEndian.AppendUint32(nil, crc32.ChecksumIEEE([]byte(s))))
	}
	adler := func(s string) string {
		return string(binary.LittleEndian.AppendUint32(nil, adler32.Checksum([]byte(s))))
	}
	good := func(text string, parts ...string) {
		t.Helper()
		b := strings.Join(parts, "")
		d := read(t, text)
		if _, _, e := Parse(d, b, 99); e != api.OK {
			t.Errorf("%s, %q: %d", text, b, e)
		}
		// The part behind the first one is the checksum; each bit of it counts.
		for i := range 32 {
			c := []byte(b)
			c[len(parts[0])+i/8] ^= 1 << (i % 8)
			if _, _, e := Parse(d, string(c), 99); e != api.ErrSum {
				t.Errorf("%s, %q: %d", text, c, e)
			}
		}
	}
	good("record a { x: bytes[4]; s: u32be crc x x; }", "1234", crc("1234"))
	good("record a { x: bytes[4]; s: u32le adler x x; }", "1234", adler("1234"))
	good("record a { x: bytes[0]; s: u32be crc x x; }", "", crc(""))
	good("record a { x: bytes[0]; s: u32le adler x x; }", "", adler(""))
	good("record a { s: u32be crc x r; x: u16le; r: rest; }", "", crc("1234567"), "1234567")
	good("record a { s: u32le adler l l; x: u8; l: c[]; } record c { n: u8; }", "", adler("234567"), "1234567")
	good("record a { v: u8; w: u8; x: c; y: align 4; z: u8; s: u32be crc w y; t: u8; } record c { n: u8; }", "123\x00z", crc("23\x00"), "t")
	// What stands elsewhere in between is not covered, and a checksum inside is.
	good("record a { x: u8; p: u8 offset q; q: bytes[2] at p; z: u8; s: u32be crc x z; }", "1\x07z", crc("1\x07z"), "qq")
	good("record a { x: c; s: u32le adler x x; } record c { b: bytes[2]; s: u32be crc b b; }", "12"+crc("12"), adler("12"+crc("12")))
	wantsError(t, "record a { x: bytes[4]; s: u32be crc x x; }", "1234\x00\x00\x00\x00", api.ErrSum)
	wantsError(t, "record a { x: bytes[4]; s: u32be crc x x; }", "1234"+crc("1234")[:3], api.ErrCut)
	wants(t, "record a { p: u8 offset q; q: c at p shared; } record c { b: bytes[1]; s: u32be crc b b; }", "\x01z"+crc("z"), `{1 {"z" `+strconv.Itoa(int(crc32.ChecksumIEEE([]byte("z"))))+"}}", "0-1:0")
}

// TestP14_1FirstError: of several errors, the one that occurs first is returned.
func TestP14_1FirstError(t *testing.T) {
	for _, c := range []struct {
		text, b string
		fuel    int
		e       api.Errno
	}{
		// fuel, then the offset, then the expression, then the bytes, then the claim, then the value
		{"record a { n: u8; m: u8; }", "", 0, api.ErrFuel}, {"record a { n: u8; m: u8; }", "", 1, api.ErrCut}, {"record a { p: u8 offset q; q: bytes[1] at p; }", "\x09", 1, api.ErrFuel}, {"record a { n: u8; b: bytes[n - 1]; }", "\x00", 1, api.ErrFuel},
		{"record a { p: u8 offset q; q: bytes[0 - 1] at p; }", "\x09", 9, api.ErrCut}, {"record a { p: u8 offset q; q: bytes[0 - 1] at p; }", "\x01", 9, api.ErrForm}, {"record a { p: u8 offset q; q: bytes[9] at p; }", "\x00", 9, api.ErrCut},
		{"record a { p: u8 offset q; q: c at p; } record c { n: u8 is 7; }", "\x00", 9, api.ErrOverlap}, {"record a { p: u8 offset q; q: c at p; } record c { n: u8 is 7; }", "\x01\x06", 9, api.ErrForm}, {"record a { p: u8 offset q; q: c at p shared; } record c { n: u8 is 7; }", "\x00", 9, api.ErrForm},
		{"record a { p: u8 offset q; q: c at p; } record c { n: u16be is 7; }", "\x00", 9, api.ErrCut}, {"record a { v: u8; p: u8 offset q; q: c at p; } record c { x: align 2; y: u8; z: align 4; }", "\x00\x01\x01", 9, api.ErrOverlap},
		{"record a { n: u8; x: align 4; }", "\x00\x01", 9, api.ErrCut}, {"record a { l: c[2]; } record c { n: u8; }", "", 1, api.ErrFuel}, {"record a { l: c[2]; } record c { n: u8; }", "", 2, api.ErrFuel}, {"record a { l: c[2]; } record c { n: u8; }", "", 3, api.ErrCut},
		{"record a { l: c[0 - 1]; } record c { n: u8; }", "", 1, api.ErrForm}, {"record a { k: u8; x: pick k - 1 { }; }", "\x00", 2, api.ErrForm}, {"record a { k: u8; x: pick k { 1: c; }; } record c { n: u8; }", "\x01", 2, api.ErrFuel}, {"record a { k: u8; x: pick k { 1: c; }; } record c { n: u8; }", "\x02", 2, api.ErrForm},
		// computed numbers are checked when their record has been read, in order
		{"record a { n: u8 size b; b: bytes[1]; m: u8; }", "\x02x", 9, api.ErrCut}, {"record a { n: u8 size b; b: bytes[1]; m: u8 is 1; s: u32be crc b b; }", "\x02x\x01\x00\x00\x00\x00", 9, api.ErrForm},
		{"record a { s: u32be crc b b; n: u8 size b; b: bytes[1]; }", "\x00\x00\x00\x00\x02x", 9, api.ErrSum}, {"record a { n: u8 size b; s: u32be crc b b; b: bytes[1]; }", "\x02\x00\x00\x00\x00x", 9, api.ErrForm}, {"record a { n: u8 size b; s: u32be crc b b; b: bytes[1]; }", "\x01\x00\x00\x00\x00x", 9, api.ErrSum},
		{"record a { n: u8 size b; b: bytes[1]; m: u8; }", "\x02x\x00", 2, api.ErrFuel}, {"record a { c: c; m: u16be; } record c { n: u8 size b; b: bytes[1]; }", "\x02x", 9, api.ErrForm}, {"record a { c: c; m: u16be; } record c { b: bytes[1]; s: u32be adler b b; }", "x\x00\x00\x00\x00", 3, api.ErrSum},
		{"record a { c: c; m: u16be; } record c { n: u8 size b; b: bytes[1]; }", "\x02x", 3, api.ErrForm}, {"record a { c: c; m: u16be; } record c { n: u8 size b; b: bytes[1]; }", "\x01x", 3, api.ErrFuel}, {"record a { c: c; m: u16be; } record c { n: u8 size b; b: bytes[1]; }", "\x01x", 4, api.ErrCut},
		{"record a { l: c[2]; } record c { n: u8 size b; b: bytes[1]; }", "\x02x", 9, api.ErrForm}, {"record a { l: c[2]; } record c { n: u8 count b; b: d[1]; } record d { n: u8; }", "\x01x\x02y", 99, api.ErrForm},
	} {
		fails(t, c.text, c.b, c.fuel, c.e)
	}
}
