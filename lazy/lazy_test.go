package lazy

import (
	"encoding/binary"
	"math"
	"slices"
	"strconv"
	"strings"
	"testing"

	"mortise/api"
	"mortise/desc"
	"mortise/parse"
	"mortise/src"
)

func read(t *testing.T, s string) api.Desc {
	t.Helper()
	d, e := desc.Parse(s)
	if e != api.OK {
		t.Fatalf("%q: %d", s, e)
	}
	return d
}

func fault() api.Step      { return api.Step{Kind: api.SrcFault} }
func whole() api.Step      { return api.Step{Kind: api.SrcWhole} }
func short(n int) api.Step { return api.Step{Kind: api.SrcShort, N: n} }

// open returns a reader with its source.
func open(t *testing.T, d api.Desc, b string, script ...api.Step) (*Reader, *src.Source) {
	t.Helper()
	s, e := src.New(b, script)
	if e != api.OK {
		t.Fatal(e)
	}
	r, e := Open(d, s)
	if r == nil || e != api.OK {
		t.Fatalf("%v, %d", r, e)
	}
	return r, s
}

// show is a node as text: a number, bytes, or what it is made of, where zero and empty ones are left out beside others.
func show(x api.Node) string {
	s := ""
	if x.N != 0 || x.S == "" && len(x.L) == 0 {
		s = strconv.FormatUint(x.N, 10)
	}
	if x.S != "" {
		s += strconv.Quote(x.S)
	}
	if len(x.L) == 0 {
		return s
	}
	var l []string
	for _, y := range x.L {
		l = append(l, show(y))
	}
	return s + "{" + strings.Join(l, " ") + "}"
}

// wants holds Get of a path against a node as text, and the bytes that are read for it.
func wants(t *testing.T, text string, b string, path []int, node string, reads ...api.Span) {
	t.Helper()
	d := read(t, text)
	if _, _, e := parse.Parse(d, b, api.MaxFuel); e != api.OK {
		t.Errorf("%s, %.100q: %d", text, b, e)
	}
	r, s := open(t, d, b)
	x, e := r.Get(path)
	if show(x) != node || e != api.OK {
		t.Errorf("%s, %.100q, %v: %s, %d, not %s", text, b, path, show(x), e, node)
	}
	if l := joined(s.Reads()); !slices.Equal(l, reads) {
		t.Errorf("%s, %.100q, %v: %v were read, not %v", text, b, path, l, reads)
	}
}

// joined are spans in ascending order, where those that touch each other are one.
func joined(l []api.Span) []api.Span {
	l = slices.Clone(l)
	slices.SortFunc(l, func(a api.Span, b api.Span) int { return a.Lo - b.Lo })
	var all []api.Span
	for _, s := range l {
		if k := len(all) - 1; k >= 0 && s.Lo <= all[k].Hi {
			all[k].Hi = max(all[k].Hi, s.Hi)
		} else {
			all = append(all, s)
		}
	}
	return all
}

// refuses holds that Get of a path is ErrArg, for which these bytes are read.
func refuses(t *testing.T, text string, b string, path []int, reads ...api.Span) {
	t.Helper()
	r, s := open(t, read(t, text), b)
	x, e := r.Get(path)
	if e != api.ErrArg || x.N != 0 || x.S != "" || x.L != nil {
		t.Errorf("%s, %.100q, %v: %s, %d", text, b, path, show(x), e)
	}
	if l := joined(s.Reads()); !slices.Equal(l, reads) {
		t.Errorf("%s, %.100q, %v: %v were read, not %v", text, b, path, l, reads)
	}
	if r.Kept() != 0 { // R3
		t.Errorf("%s, %.100q, %v: %d", text, b, path, r.Kept())
	}
}

func TestP16_1Open(t *testing.T) {
	good, bad := read(t, "record a { n: u8; b: bytes[n]; }"), read(t, "record a { b: bytes[n]; n: u8; }")
	s, _ := src.New("\x01x", []api.Step{fault(), short(1)})
	if r, e := Open(good, s); r == nil || e != api.OK || r.Kept() != 0 {
		t.Errorf("%v, %d", r, e)
	}
	for _, d := range []api.Desc{bad, {}, {Recs: []api.Rec{{Name: "a", Fields: []api.Field{{Name: "x"}}}}}} {
		if r, e := Open(d, s); r != nil || e != api.ErrType {
			t.Errorf("%v, %d", r, e)
		}
		if r, e := Open(d, nil); r != nil || e != api.ErrArg { // ahead of the other error
			t.Errorf("%v, %d", r, e)
		}
	}
	if r, e := Open(good, nil); r != nil || e != api.ErrArg {
		t.Errorf("%v, %d", r, e)
	}
	if s.Left() != 2 || len(s.Reads()) != 0 {
		t.Errorf("%d, %v", s.Left(), s.Reads())
	}
}

func TestP16_2Nil(t *testing.T) {
	var r *Reader
	for _, path := range [][]int{nil, {}, {0}, make([]int, 41)} {
		if x, e := r.Get(path); show(x) != "0" || e != api.ErrArg {
			t.Errorf("%s, %d", show(x), e)
		}
	}
	if e := r.Validate(); e != api.ErrArg {
		t.Error(e)
	}
	r.Forget()
	if r.Kept() != 0 {
		t.Error(r.Kept())
	}
}

func span(lo int, hi int) api.Span { return api.Span{Lo: lo, Hi: hi} }

// TestP16_2Parts: the part of each kind of field, for which only what it depends on is read.
func TestP16_2Parts(t *testing.T) {
	ints := "record a { m: u16be; x: align 4; n: u32le is 7; o: u64be; }"
	b := "\x01\x02\x00\x00\x07\x00\x00\x00\x00\x00\x00\x00\x00\x00\x00\x09zz"
	wants(t, ints, b, []int{0}, "258", span(0, 2))
	wants(t, ints, b, []int{1}, "0")
	wants(t, ints, b, []int{2}, "7", span(4, 8))
	wants(t, ints, b, []int{3}, "9", span(8, 16))
	wants(t, ints, b, nil, "{258 0 7 9}", span(0, 2), span(4, 16))
	bytes := "record a { n: u8; m: u8; b: bytes[n]; x: align 4; c: bytes[m + n]; y: align 4; r: rest; }"
	b = "\x01\x02b\x00cde\x00rest"
	wants(t, bytes, b, []int{2}, `"b"`, span(0, 1), span(2, 3))
	wants(t, bytes, b, []int{4}, `"cde"`, span(0, 2), span(4, 7))
	wants(t, bytes, b, []int{5}, "0")
	wants(t, bytes, b, []int{6}, `"rest"`, span(0, 2), span(8, 12))
	wants(t, bytes, b, []int{}, `{1 2 "b" 0 "cde" 0 "rest"}`, span(0, 3), span(4, 7), span(8, 12))
	wants(t, "record a { b: bytes[0]; c: bytes[1 - 1]; r: rest; }", "", nil, "{0 0 0}")
	sums := "record a { o: u8; n: u8; m: u8; b: bytes[m * 2 + n]; k: pick n { else c; }; } record c { }"
	wants(t, sums, "\x09\x01\x01xyz", []int{3}, `"xyz"`, span(1, 6))
	wants(t, sums, "\x09\x01\x01xyz", []int{4}, "1{0}", span(1, 3))
	records := "record a { c: c; d: c; e: u8; } record c { n: u8; b: bytes[n]; m: u8; }"
	b = "\x01x\x09\x02yz\x08\x07"
	wants(t, records, b, []int{0}, `{1 "x" 9}`, span(0, 3))
	wants(t, records, b, []int{0, 1}, `"x"`, span(0, 2))
	wants(t, records, b, []int{0, 2}, "9", span(0, 1), span(2, 3))
	wants(t, records, b, []int{1, 0}, "2", span(0, 1), span(3, 4))
	wants(t, records, b, []int{1, 1}, `"yz"`, span(0, 1), span(3, 6))
	wants(t, records, b, []int{2}, "7", span(0, 1), span(3, 4), span(7, 8))
	wants(t, records, b, nil, `{{1 "x" 9} {2 "yz" 8} 7}`, span(0, 8))
	arrays := "record a { k: u8; l: c[k - 1]; f: d[2]; e: c[]; } record c { n: u8; b: bytes[n]; } record d { m: u16be; }"
	b = "\x03\x00\x01x\x01\x02\x03\x04\x02yz\x00"
	wants(t, arrays, b, []int{1}, `{{0 0} {1 "x"}}`, span(0, 4))
	wants(t, arrays, b, []int{1, 0, 0}, "0", span(0, 2))
	wants(t, arrays, b, []int{1, 1}, `{1 "x"}`, span(0, 4))
	wants(t, arrays, b, []int{1, 1, 1}, `"x"`, span(0, 4))
	wants(t, arrays, b, []int{2, 1, 0}, "772", span(0, 3), span(6, 8))
	wants(t, arrays, b, []int{3}, `{{2 "yz"} {0 0}}`, span(0, 3), span(8, 12))
	wants(t, arrays, b, []int{3, 0}, `{2 "yz"}`, span(0, 3), span(8, 11))
	wants(t, arrays, b, []int{3, 1}, "{0 0}", span(0, 3), span(8, 9), span(11, 12))
	wants(t, "record a { l: c[]; } record c { n: u8; }", "", []int{0}, "0")
	picks := "record a { k: u8; x: pick k & 3 { 1: c; 2: d; else e; }; y: u8; } record c { n: u16be; } record d { } record e { m: u8; n: u8; o: u8; }"
	wants(t, picks, "\x05\x01\x02\x09", []int{1}, "1{{258}}", span(0, 3))
	wants(t, picks, "\x05\x01\x02\x09", []int{1, 0, 0}, "258", span(0, 3))
	wants(t, picks, "\x05\x01\x02\x09", []int{2}, "9", span(0, 1), span(3, 4))
	wants(t, picks, "\x06\x09", []int{1, 0}, "0", span(0, 1))
	wants(t, picks, "\x06\x09", []int{2}, "9", span(0, 2))
	wants(t, picks, "\x07\x01\x02\x03\x09", []int{1, 0, 1}, "2", span(0, 1), span(2, 3))
	wants(t, picks, "\x07\x01\x02\x03\x09", []int{1, 0}, "{1 2 3}", span(0, 4))
	wants(t, picks, "\x07\x01\x02\x03\x09", []int{2}, "9", span(0, 1), span(4, 5))
}

// TestP16_2Elsewhere: fields that stand elsewhere, which those behind them do not depend on.
func TestP16_2Elsewhere(t *testing.T) {
	text := "record a { n: u8; p: u16be offset q; q: c[n] at p; k: u8; r: u8 offset s; s: bytes[k] at r shared; t: u8; } record c { v: u8; w: bytes[v]; }"
	b := "\x02\x00\x0a\x03\x00\x07zzzz\x01A\x02BC"
	wants(t, text, b, []int{3}, "3", span(3, 4))
	wants(t, text, b, []int{6}, "7", span(5, 6))
	wants(t, text, b, []int{2, 0, 0}, "1", span(0, 3), span(10, 11))
	wants(t, text, b, []int{2, 1, 1}, `"BC"`, span(0, 3), span(10, 11), span(12, 15))
	wants(t, text, b, []int{2}, `{{1 "A"} {2 "BC"}}`, span(0, 3), span(10, 15))
	wants(t, text, b, []int{5}, `"\x02\x00\n"`, span(0, 5))
	wants(t, text, b, nil, `{2 10 {{1 "A"} {2 "BC"}} 3 0 "\x02\x00\n" 7}`, span(0, 6), span(10, 15))
	inner := "record a { c: c; m: u8; } record c { p: u8 offset q; q: d at p; x: pick 1 { 1: d; } ; o: u8 offset y; y: pick p { 9: d; else c2; } at o; z: u8; } record d { n: u8; x: align 4; m: u8; } record c2 { e: bytes[2]; }"
	b = "\x0c\x05\x00\x00\x06\x11\x08\x09....\x01\x00\x00\x00\x02ef"
	wants(t, inner, b, []int{0, 1}, "{1 0 2}", span(0, 1), span(12, 13), span(16, 17))
	wants(t, inner, b, []int{0, 1, 2}, "2", span(0, 1), span(16, 17))
	wants(t, inner, b, []int{0, 4}, `12{{"ef"}}`, span(0, 1), span(5, 6), span(17, 19))
	wants(t, inner, b, []int{0, 4, 0, 0}, `"ef"`, span(0, 1), span(5, 6), span(17, 19))
	wants(t, inner, b, []int{0, 5}, "8", span(6, 7))
	wants(t, inner, b, []int{1}, "9", span(7, 8))
	// It may begin where the bytes end.
	wants(t, "record a { p: u8 offset q; q: bytes[0] at p; }", "\x01", []int{1}, "0", span(0, 1))
	wants(t, "record a { p: u8 offset q; q: c at p; } record c { }", "\x01", []int{1}, "0", span(0, 1))
}

// TestP16_2None: paths that lead to no part. Nothing is read for those that lead to none whatever the bytes are.
func TestP16_2None(t *testing.T) {
	text := "record a { k: u8; c: c; l: c[k]; x: pick k { 2: c; 3: d; else e; }; y: align 2; f: c[]; } record c { n: u8; b: bytes[1]; } record d { c: c; l: c[1]; } record e { }"
	b := "\x02\x05X\x06Y\x07Z\x08W\x00\x09V\x0aU"
	for _, path := range [][]int{
		{6}, {-1}, {math.MinInt}, {math.MaxInt}, {0, 0}, {0, -1}, {1, 2}, {1, -1}, {1, 0, 0}, {1, 1, 0}, {2, -1}, {2, math.MinInt}, {2, 0, 2}, {2, 9, 2}, {2, 0, -1}, {2, 0, 0, 0}, {2, 1, 1, 0},
		{3, 1}, {3, -1}, {3, 0, 2}, {3, 0, 0, 2}, {3, 0, 1, 0, 2}, {3, 0, 1, 0, 1, 0}, {3, 0, 1, -1, 0}, {4, 0}, {5, -1}, {5, 0, 2}, {5, 0, 0, 0}, make([]int, 41), make([]int, 99),
	} {
		refuses(t, text, b, path)
		refuses(t, text, "", path)
		r, s := open(t, read(t, text), b, fault())
		if _, e := r.Get(path); e != api.ErrArg || s.Left() != 1 { // a fault does not matter
			t.Errorf("%v: %d", path, e)
		}
	}
	for _, path := range [][]int{{2, 2}, {2, 2, 1}, {2, math.MaxInt}, {2, 3, 0}, {3, 0, 0, 0}, {3, 0, 1, 0, 1}} {
		refuses(t, text, b, path, span(0, 1))
	}
	for _, path := range [][]int{{5, 2}, {5, 2, 0}, {5, math.MaxInt}, {5, math.MaxInt, 1}} {
		refuses(t, text, b, path, span(0, 1))
	}
	// Where a list begins does not matter then.
	refuses(t, "record a { m: u8; k: u8; b: bytes[m]; l: c[k]; } record c { n: u8; }", "\x01\x02xyz", []int{3, 2}, span(1, 2))
	refuses(t, "record a { m: u8; k: u8; b: bytes[m]; x: pick k { 2: c; 3: c; else d; }; } record c { n: u8; } record d { c: c; }", "\x01\x02xyz", []int{3, 0, 0, 0}, span(1, 2))
	refuses(t, "record a { k: u8; x: pick k { 1: c; 2: c; else c; }; } record c { n: u8; }", "\x01z", []int{1, 0, 1})
	refuses(t, "record a { l: c[2]; } record c { n: u8; }", "\x01\x02", []int{0, 2})
	refuses(t, "record a { l: c[]; } record c { n: u8; }", "", []int{0, 0})
	refuses(t, "record a { }", "x", []int{0})
	refuses(t, "record a { x: pick 1 { 1: c; 2: d; }; } record c { } record d { n: u8; }", "", []int{0, 0, 0})
	for _, n := range []int{40, 41, 1000} { // the zeros lead nowhere anyhow
		refuses(t, text, b, make([]int, n))
	}
}

// TestP16_2Long: of the longest chain of records, each of a list, the innermost part.
func TestP16_2Long(t *testing.T) {
	text, path := "record a { b0: b1[1]; }", []int{0, 0}
	for i := 1; i < 11; i++ {
		text += " record b" + strconv.Itoa(i) + " { n: u8; l: b" + strconv.Itoa(i+1) + "[n]; }"
		path = append(path, 1, 0)
	}
	text += " record b11 { n: u8; b: bytes[n]; }"
	b := strings.Repeat("\x01", 11) + "x"
	wants(t, text, b, append(path, 1), `"x"`, span(0, 12))
	wants(t, text, b, path, `{1 "x"}`, span(0, 12))
	refuses(t, text, b, append(path, 2))
	refuses(t, text, b, append(path, 1, 0))
}

// TestP16_2Fault: a read that fails is an error, whatever it was for; without it, short reads do not matter.
func TestP16_2Fault(t *testing.T) {
	d := read(t, "record a { n: u8; b: bytes[n]; l: c[n]; r: rest; } record c { m: u8; }")
	b := "\x03abc\x04\x05\x06rest"
	for path, want := range map[string]string{"\x00": "3", "\x01": `"abc"`, "\x02": "{{4} {5} {6}}", "\x02\x01": "{5}", "\x02\x02\x00": "6", "\x03": `"rest"`, "": `{3 "abc" {{4} {5} {6}} "rest"}`} {
		var steps []int
		for i := range len(path) {
			steps = append(steps, int(path[i]))
		}
		for n := range 30 {
			for _, other := range []api.Step{whole(), short(0), short(1), short(2)} {
				script := append(slices.Repeat([]api.Step{other}, n), fault())
				r, s := open(t, d, b, script...)
				x, e := r.Get(steps)
				if s.Left() == 0 && (e != api.ErrFault || show(x) != "0" || r.Kept() != 0) || s.Left() > 0 && (e != api.OK || show(x) != want) {
					t.Errorf("%v, %d: %s, %d", steps, n, show(x), e)
				}
				if s.Left() > 0 {
					continue
				}
				if x, e := r.Get(steps); e != api.OK || show(x) != want {
					t.Errorf("%v, %d: %s, %d", steps, n, show(x), e)
				}
			}
		}
	}
}

// TestP16_2Great: bytes that are more than one read may ask for.
func TestP16_2Great(t *testing.T) {
	for _, n := range []int{api.MaxRead - 1, api.MaxRead, api.MaxRead + 1, 3*api.MaxRead + 7} {
		big := strings.Repeat("0123456789", n/10+1)[:n]
		d := read(t, "record a { n: u32be; b: bytes[n]; r: rest; }")
		b := string(binary.BigEndian.AppendUint32(nil, uint32(n))) + big + big
		r, s := open(t, d, b, short(5), short(1000), whole(), short(7))
		for i := 1; i <= 2; i++ {
			if x, e := r.Get([]int{i}); x.S != big || e != api.OK {
				t.Errorf("%d, %d: %d bytes, %d", n, i, len(x.S), e)
			}
		}
		if x, e := r.Get(nil); e != api.OK || len(x.L) != 3 || x.L[1].S != big || x.L[2].S != big {
			t.Errorf("%d: %d", n, e)
		}
		if e := r.Validate(); e != api.OK || s.Left() != 0 {
			t.Errorf("%d: %d", n, e)
		}
	}
}

// TestP16_2Fuel: parts of the greatest whole that can be parsed are there, and what cannot be parsed ends.
func TestP16_2Fuel(t *testing.T) {
	d := read(t, "record a { n: u32be; l: c[n]; e: d; r: u8; } record c { n: u8; b: bytes[n]; m: u8; } record d { x: align 1; y: align 1; }")
	const n = 24998 // with 4 units of fuel for each and 6 others: two fewer than there may be
	b := string(binary.BigEndian.AppendUint32(nil, n)) + strings.Repeat("\x01xy", n) + "z"
	if _, _, e := parse.Parse(d, b, 4*n+6); e != api.OK {
		t.Fatal(e)
	}
	r, _ := open(t, d, b)
	for _, c := range []struct {
		path []int
		want string
	}{{[]int{3}, "122"}, {[]int{1, n - 1}, `{1 "x" 121}`}, {[]int{1, n - 1, 2}, "121"}, {[]int{1, 0, 1}, `"x"`}, {[]int{0}, "24998"}} {
		if x, e := r.Get(c.path); show(x) != c.want || e != api.OK {
			t.Errorf("%v: %s, %d", c.path, show(x), e)
		}
	}
	if x, e := r.Get([]int{1, n}); e != api.ErrArg {
		t.Errorf("%s, %d", show(x), e)
	}
	if x, e := r.Get(nil); e != api.OK || len(x.L) != 4 || len(x.L[1].L) != n || show(x.L[1].L[n-1]) != `{1 "x" 121}` {
		t.Errorf("%d", e)
	}
	exact := read(t, "record a { l: c[49999]; z: u8; } record c { n: u8; }")
	r, _ = open(t, exact, strings.Repeat("x", 49999)+"z")
	if e := r.Validate(); e != api.OK {
		t.Error(e)
	}
	if x, e := r.Get([]int{1}); show(x) != "122" || e != api.OK {
		t.Errorf("%s, %d", show(x), e)
	}
	if x, e := r.Get(nil); e != api.OK || len(x.L[0].L) != 49999 {
		t.Error(e)
	}
	endless := read(t, "record a { l: c[4611686018427387904]; z: u8; } record c { n: u8; x: bytes[0]; }")
	r, _ = open(t, endless, strings.Repeat("x", 60000))
	for _, path := range [][]int{nil, {0}, {1}, {0, 59999}, {0, math.MaxInt}} {
		if _, e := r.Get(path); e == api.OK {
			t.Errorf("%v: %d", path, e)
		}
	}
	// Records that are so many that they could never be gone through one by one.
	text := "record a { x: b1; n: u8; }"
	for i := 1; i < 11; i++ {
		text += " record b" + strconv.Itoa(i) + " {"
		for k := range 40 {
			text += " x" + strconv.Itoa(k) + ": b" + strconv.Itoa(i+1) + ";"
		}
		text += " }"
	}
	r, _ = open(t, read(t, text+" record b11 { }"), "x")
	for _, path := range [][]int{nil, {0}, {1}, {0, 39}, {0, 39, 39, 39, 39}} {
		if _, e := r.Get(path); e != api.ErrFuel {
			t.Errorf("%v: %d", path, e)
		}
	}
	if x, e := r.Get([]int{0, 0, 0, 0, 0, 0, 0, 0, 0, 0, 0}); show(x) != "0" || e != api.OK {
		t.Errorf("%s, %d", show(x), e)
	}
	if e := r.Validate(); e != api.ErrFuel {
		t.Error(e)
	}
}

// TestR1Picks: a path through very many choices that are all alike is refused at once.
func TestR1Picks(t *testing.T) {
	text := "record a { x: pick 0 { 0: b1; 1: c1; }; }"
	for i := 1; i < 11; i++ {
		for _, s := range []string{"b", "c"} {
			text += " record " + s + strconv.Itoa(i) + " { x: pick 0 {"
			for k := range 20 {
				text += " " + strconv.Itoa(k) + ": " + []string{"b", "c"}[k%2] + strconv.Itoa(i+1) + ";"
			}
			text += " }; }"
		}
	}
	text += " record b11 { } record c11 { }"
	refuses(t, text, "", make([]int, 23))
	wants(t, text, "", make([]int, 22), "0")
}

// TestR1Shared: very many parts of the same bytes, whether these are the very same or not, take no more memory than the bytes.
func TestR1Shared(t *testing.T) {
	const n, size = 20000, 1000000
	d := read(t, "record a { l: c[20000]; b: bytes[1020000]; } record c { p: u32be offset q; q: bytes[1000000] at p shared; }")
	for _, step := range []int{0, 1} {
		var at []byte
		for i := range n {
			at = binary.BigEndian.AppendUint32(at, uint32(4*n+step*i))
		}
		b := string(at) + strings.Repeat("0123456789", (size+n)/10)
		r, s := open(t, d, b)
		x, e := r.Get(nil)
		if e != api.OK || len(x.L[0].L) != n || x.L[0].L[n-1].L[1].S != b[4*n+step*(n-1):][:size] {
			t.Errorf("%d", e)
		}
		if len(s.Reads()) > n+9 {
			t.Errorf("%d reads", len(s.Reads()))
		}
		r, _ = open(t, d, b[:len(b)-1])
		if _, e := r.Get(nil); e != api.ErrCut {
			t.Error(e)
		}
	}
}

func TestP16_3Validate(t *testing.T) {
	for _, c := range []struct {
		text, b string
		e       api.Errno
	}{
		{"record a { n: u8; b: bytes[n]; }", "\x02xy", api.OK}, {"record a { n: u8; b: bytes[n]; }", "\x02xyzz", api.OK}, {"record a { n: u8; b: bytes[n]; }", "\x03xy", api.ErrCut}, {"record a { n: u8 is 3; }", "\x02", api.ErrForm}, {"record a { n: u8 size b; b: bytes[1]; }", "\x02x", api.ErrForm},
		{"record a { s: u32be crc b b; b: bytes[1]; }", "\x00\x00\x00\x00x", api.ErrSum}, {"record a { s: u32be adler b b; b: bytes[0]; }", "\x00\x00\x00\x01", api.OK}, {"record a { p: u8 offset q; q: bytes[1] at p; }", "\x00", api.ErrOverlap}, {"record a { p: u8 offset q; q: bytes[1] at p shared; }", "\x00", api.OK},
		{"record a { l: c[50000]; } record c { n: u8; }", strings.Repeat("x", 50000), api.ErrFuel}, {"record a { l: c[49999]; } record c { n: u8; }", strings.Repeat("x", 50000), api.OK}, {"record a { }", "", api.OK}, {"record a { x: align 4; n: u8; y: align 4; }", "\x01\x00\x02\x00", api.ErrForm},
	} {
		r, s := open(t, read(t, c.text), c.b)
		for range 2 {
			if e := r.Validate(); e != c.e {
				t.Errorf("%s, %.50q: %d, not %d", c.text, c.b, e, c.e)
			}
		}
		if r.Kept() != 0 || c.b != "" && !slices.Equal(joined(s.Reads()), []api.Span{{Hi: len(c.b)}}) {
			t.Errorf("%d, %v", r.Kept(), s.Reads())
		}
		if len(c.b) == 0 {
			continue
		}
		// Whichever read fails, that is the error.
		for n := range 5 {
			r, s := open(t, read(t, c.text), c.b, append(slices.Repeat([]api.Step{short(1)}, n), fault())...)
			want := c.e
			if n < len(c.b) {
				want = api.ErrFault
			}
			if e := r.Validate(); e != want || want == api.ErrFault && s.Left() != 0 {
				t.Errorf("%s, %.50q, %d: %d, not %d", c.text, c.b, n, e, want)
			}
		}
	}
}

func TestP16_4Kept(t *testing.T) {
	d := read(t, "record a { n: u8; m: u16be; b: bytes[n]; l: c[100]; } record c { k: u8; }")
	b := "\x02\x01\x02xy" + strings.Repeat("k", 100)
	r, s := open(t, d, b, whole(), fault(), fault())
	for range 3 { // the other reads would fail
		if x, e := r.Get([]int{0}); show(x) != "2" || e != api.OK || r.Kept() != 1 || s.Left() != 2 {
			t.Errorf("%s, %d, %d", show(x), e, r.Kept())
		}
	}
	if _, e := r.Get([]int{1}); e != api.ErrFault || r.Kept() != 1 {
		t.Errorf("%d, %d", e, r.Kept())
	}
	r.Forget()
	if r.Kept() != 0 {
		t.Error(r.Kept())
	}
	if _, e := r.Get([]int{0}); e != api.ErrFault || r.Kept() != 0 {
		t.Errorf("%d, %d", e, r.Kept())
	}
	for i, path := range [][]int{{0}, {1}, {2}, {2}, {0}} { // bytes are no numbers
		if _, e := r.Get(path); e != api.OK || r.Kept() != min(i+1, 2) {
			t.Errorf("%v: %d, %d", path, e, r.Kept())
		}
	}
	for i := range 100 {
		x, e := r.Get([]int{3, i, 0})
		if show(x) != "107" || e != api.OK || r.Kept() != min(3+i, api.MaxCache) {
			t.Errorf("%d: %s, %d, %d", i, show(x), e, r.Kept())
		}
	}
	// The last ones are cached, and only what an older one is needed for is read again.
	before := len(s.Reads())
	for i := 99; i >= 100-api.MaxCache; i-- {
		if x, e := r.Get([]int{3, i, 0}); show(x) != "107" || e != api.OK {
			t.Errorf("%d: %s, %d", i, show(x), e)
		}
		if i == 99 && len(s.Reads()) > before+1 {
			t.Errorf("%v", s.Reads()[before:])
		}
	}
	r.Forget()
	if x, e := r.Get(nil); e != api.OK || len(x.L) != 4 || r.Kept() != api.MaxCache {
		t.Errorf("%d, %d", e, r.Kept())
	}
}

// TestP16_4Once: within one reading, no number is read twice, though more of them are read than are cached.
func TestP16_4Once(t *testing.T) {
	r, s := open(t, read(t, "record a { n: u8; m: u8; l: c[100]; b: bytes[n + m]; d: bytes[n * m]; } record c { k: u8; }"), "\x01\x02"+strings.Repeat("k", 100)+"abcde")
	x, e := r.Get(nil)
	if e != api.OK || x.L[3].S+x.L[4].S != "abcde" || len(s.Reads()) != 104 || r.Kept() != api.MaxCache {
		t.Errorf("%s, %d, %d reads, %d", show(x), e, len(s.Reads()), r.Kept())
	}
}

// TestConstants: a number that the description rules out is not returned.
func TestConstants(t *testing.T) {
	r, _ := open(t, read(t, "record a { n: u8 is 7; m: u8; }"), "\x08\x09")
	if x, e := r.Get([]int{0}); show(x) != "0" || e != api.ErrForm || r.Kept() != 0 {
		t.Errorf("%s, %d, %d", show(x), e, r.Kept())
	}
	if x, e := r.Get([]int{1}); show(x) != "9" || e != api.OK {
		t.Errorf("%s, %d", show(x), e)
	}
}

// TestP16_4Oldest: the number that was cached first is forgotten first.
func TestP16_4Oldest(t *testing.T) {
	text := "record a {"
	for i := range 2 {
		text += " c" + strconv.Itoa(i) + ": c;"
	}
	text += " } record c {"
	for i := range 40 {
		text += " n" + strconv.Itoa(i) + ": u8;"
	}
	d := read(t, text+" }")
	r, s := open(t, d, strings.Repeat("x", 80))
	get := func(i int) int {
		before := len(s.Reads())
		if x, e := r.Get([]int{i / 40, i % 40}); show(x) != "120" || e != api.OK {
			t.Errorf("%d: %s, %d", i, show(x), e)
		}
		return len(s.Reads()) - before
	}
	for i := range 64 {
		if get(i) != 1 || r.Kept() != i+1 {
			t.Errorf("%d: %d", i, r.Kept())
		}
	}
	for i := range 64 {
		if get(i) != 0 {
			t.Errorf("%d was read again", i)
		}
	}
	if get(64) != 1 || r.Kept() != 64 || get(1) != 0 || get(64) != 0 || get(63) != 0 || get(0) != 1 || r.Kept() != 64 || get(2) != 0 || get(1) != 1 {
		t.Errorf("%d, %v", r.Kept(), s.Reads())
	}
}

// TestP16_4Places: numbers that share bytes are different ones if they are stored otherwise.
func TestP16_4Places(t *testing.T) {
	d := read(t, "record a { p: u8 offset q; q: c at p shared; o: u8 offset r; r: d at o shared; m: u8 offset s; s: e at m shared; } record c { n: u16be; } record d { n: u16le; } record e { n: u8; }")
	r, _ := open(t, d, "\x03\x03\x03\x01\x02")
	for range 2 {
		for i, want := range map[int]string{1: "258", 3: "513", 5: "1", 0: "3"} {
			path := []int{i, 0}[:min(i+1, 2)]
			if x, e := r.Get(path); show(x) != want || e != api.OK {
				t.Errorf("%v: %s, %d", path, show(x), e)
			}
		}
	}
	if r.Kept() != 6 {
		t.Error(r.Kept())
	}
}

// TestP16_5Usable: after a failure, and without another one, the part is returned.
func TestP16_5Usable(t *testing.T) {
	d := read(t, "record a { n: u8; b: bytes[n]; c: c; } record c { m: u8; d: bytes[m]; }")
	b := "\x02xy\x03abc"
	for n := range 6 {
		r, s := open(t, d, b, append(slices.Repeat([]api.Step{whole()}, n), fault(), fault())...)
		failed := 0
		for s.Left() > 0 {
			if _, e := r.Get([]int{2, 1}); e == api.ErrFault {
				failed++
			} else if e != api.OK {
				t.Error(e)
			}
			r.Forget()
		}
		if x, e := r.Get([]int{2, 1}); show(x) != `"abc"` || e != api.OK || failed != 2 {
			t.Errorf("%d: %s, %d, %d", n, show(x), e, failed)
		}
	}
}

func TestExamplesOfTheDocument(t *testing.T) {
	text := "record a { n: u8; b: bytes[n]; }"
	wants(t, text, "\x02\x78\x79", []int{1}, `"xy"`, span(0, 3))
	wants(t, text, "\x02\x78\x79", []int{0}, "2", span(0, 1))
	refuses(t, text, "\x02\x78\x79", []int{2})
	refuses(t, text, "\x02\x78\x79", []int{0, 0})
	// A source that returns one byte at a time: the same part; one that fails: ErrFault; asked again: the part.
	r, _ := open(t, read(t, text), "\x02\x78\x79", short(1), short(1), short(1), fault())
	if x, e := r.Get([]int{1}); show(x) != `"xy"` || e != api.OK {
		t.Errorf("%s, %d", show(x), e)
	}
	if x, e := r.Get([]int{1}); show(x) != "0" || e != api.ErrFault {
		t.Errorf("%s, %d", show(x), e)
	}
	if x, e := r.Get([]int{1}); show(x) != `"xy"` || e != api.OK {
		t.Errorf("%s, %d", show(x), e)
	}
}
