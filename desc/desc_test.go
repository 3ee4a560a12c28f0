package desc

import (
	"math/rand"
	"slices"
	"strconv"
	"strings"
	"testing"

	"mortise/api"
)

const name16 = "abcdefghijklmnop"

func wantsParse(t *testing.T, s string, want api.Desc, e api.Errno) {
	t.Helper()
	if d, f := Parse(s); !equal(d, want) || f != e {
		t.Errorf("%.300q: %.500v, %d, not %.500v, %d", s, d, f, want, e)
	}
}

func wantsError(t *testing.T, s string, e api.Errno) {
	t.Helper()
	if d, f := Parse(s); f != e || d.Recs != nil || d.Exps != nil {
		t.Errorf("%.300q: %.500v, %d, not %d", s, d, f, e)
	}
}

// one is a description of a record a with one field x.
func one(f api.Field, exps ...api.Exp) api.Desc {
	f.Name = "x"
	return api.Desc{Recs: []api.Rec{{Name: "a", Fields: []api.Field{f}}}, Exps: exps}
}

// types are texts of fields and what they stand for.
func types() map[string]api.Desc {
	n, two := api.Exp{Name: "n"}, api.Exp{N: 2}
	m := map[string]api.Desc{
		"rest":               one(api.Field{Kind: api.FRest, E: -1}),
		"align 0":            one(api.Field{Kind: api.FAlign, E: -1}),
		"align 4096":         one(api.Field{Kind: api.FAlign, E: -1, Align: 4096}),
		"align 1048576":      one(api.Field{Kind: api.FAlign, E: -1, Align: 1 << 20}),
		"b":                  one(api.Field{Kind: api.FRec, E: -1, Rec: "b"}),
		"b[]":                one(api.Field{Kind: api.FFill, E: -1, Rec: "b"}),
		"b[2]":               one(api.Field{Kind: api.FArray, Rec: "b"}, two),
		"b[n - 2]":           one(api.Field{Kind: api.FArray, E: 2, Rec: "b"}, n, two, api.Exp{Op: "-", L: 0, R: 1}),
		"bytes[n]":           one(api.Field{Kind: api.FBytes}, n),
		"bytes[(n - 2) * n]": one(api.Field{Kind: api.FBytes, E: 4}, n, two, api.Exp{Op: "-", L: 0, R: 1}, n, api.Exp{Op: "*", L: 2, R: 3}),
		"bytes[rest + u8]":   one(api.Field{Kind: api.FBytes, E: 2}, api.Exp{Name: "rest"}, api.Exp{Name: "u8"}, api.Exp{Op: "+", L: 0, R: 1}),
		"pick n { }":         one(api.Field{Kind: api.FPick}, n),
		"pick n { 2: b; }":   one(api.Field{Kind: api.FPick, Cases: []api.Case{{N: 2, Rec: "b"}}}, n),
		"pick n { else b; }": one(api.Field{Kind: api.FPick, Else: "b"}, n),
		"pick pick { 2: b; 2: c; 0: b; else c; }": one(api.Field{Kind: api.FPick, Cases: []api.Case{{N: 2, Rec: "b"}, {N: 2, Rec: "c"}, {N: 0, Rec: "b"}}, Else: "c"}, api.Exp{Name: "pick"}),
	}
	for word, f := range map[string]api.Field{
		"u8": {Width: 1}, "u16le": {Width: 2}, "u16be": {Width: 2, Big: true}, "u32le": {Width: 4}, "u32be": {Width: 4, Big: true}, "u64le": {Width: 8}, "u64be": {Width: 8, Big: true},
	} {
		f.Kind, f.E = api.FInt, -1
		for behind, g := range map[string]api.Field{
			"": {}, " is 0": {Is: true}, " is 4611686018427387904": {Is: true, Const: 1 << 62},
			" size y": {Auto: api.AutoSize, A: "y"}, " count y": {Auto: api.AutoCount, A: "y"}, " offset y": {Auto: api.AutoAt, A: "y"},
			" crc y z": {Auto: api.AutoCrc, A: "y", B: "z"}, " adler y y": {Auto: api.AutoAdler, A: "y", B: "y"},
		} {
			f.Is, f.Const, f.Auto, f.A, f.B = g.Is, g.Const, g.Auto, g.A, g.B
			m[word+behind] = one(f)
		}
	}
	return m
}

// placed are the types with each way to say where a field stands.
func placed() map[string]api.Desc {
	m := types()
	for s, d := range types() {
		at, shared := copied(d), copied(d)
		at.Recs[0].Fields[0].At = "p"
		shared.Recs[0].Fields[0].At, shared.Recs[0].Fields[0].Shared = "p", true
		m[s+" at p"], m[s+" at p shared"] = at, shared
	}
	return m
}

func TestP12_1AllTypes(t *testing.T) {
	for s, d := range placed() {
		wantsParse(t, "record a { x: "+s+"; }", d, api.OK)
		wantsParse(t, "record a{x:"+s+";}", d, api.OK)
		wantsParse(t, "\n\trecord\n\ta\n\t{\n\tx\n\t:\n\t"+s+"\n\t;\n\t}\n\t", d, api.OK)
	}
}

// TestP12_1AllWrongTypes: a token less or more is an error, or what the grammar says.
func TestP12_1AllWrongTypes(t *testing.T) {
	for s, d := range placed() {
		tokens := tokensOfDesc(d)
		tokens = slices.Concat(tokens[:5], strings.Fields(strings.NewReplacer("[", " [ ", "]", " ] ", ":", " : ", ";", " ; ").Replace(s)), tokens[len(tokens)-2:])
		for i := range tokens {
			holds(t, strings.Join(slices.Concat(tokens[:i], tokens[i+1:]), " "))
			holds(t, strings.Join(tokens[:i], " "))
			for _, more := range []string{"1", "y", "at", "shared", ";", "]", "}", "u8"} {
				holds(t, strings.Join(slices.Concat(tokens[:i], []string{more}, tokens[i:]), " "))
			}
		}
	}
}

// holds holds Parse against the grammar.
func holds(t *testing.T, s string) bool {
	t.Helper()
	good, e := modelGood(s), api.ErrSyntax
	if good {
		e = api.OK
	}
	if d, f := Parse(s); f != e || !good && (d.Recs != nil || d.Exps != nil) {
		t.Errorf("%q: %d, not %d", s, f, e)
	}
	return good
}

func TestP12_1WrongTexts(t *testing.T) {
	for _, s := range []string{"a", "record", "record a", "record a {", "record a }", "record { }", "record 1 { }", "record a { } }", "record a { };", "record a { } b { }", "{ }", "}", ";", "1",
		"recorda { }", "record a { x }", "record a { x; }", "record a { x: ; }", "record a { : u8; }", "record a { 1: u8; }", "record a { x: 1; }", "record a { x u8; }", "record a { x: u8 }", "record a { x: u8;; }", "record a { x: u8, y: u8; }",
		"record a { x: u8 y: u8; }", "record a { ; }", "record a { x: u8 at p shared shared; }", "record a { x: u8 at p at q; }", "record a { x: u8 shared; }", "record a { x: u8 shared at p; }",
		"record a { x: u8 size; }", "record a { x: u8 size 1; }", "record a { x: u8 is y; }", "record a { x: u8 is 1 size y; }", "record a { x: u8 size y is 1; }", "record a { x: u8 is 1 + 1; }", "record a { x: u8 is (1); }",
		"record a { x: u32le crc y; }", "record a { x: u32le crc y z w; }", "record a { x: u32le crc; }", "record a { x: u32le adler y 1; }", "record a { x: u8 size y z; }", "record a { x: rest size y; }", "record a { x: b is 1; }",
		"record a { x: bytes; }", "record a { x: bytes[]; }", "record a { x: bytes[1; }", "record a { x: bytes 1]; }", "record a { x: bytes(1); }", "record a { x: bytes[1)]; }", "record a { x: bytes[1]]; }", "record a { x: bytes[[1]]; }", "record a { x: bytes[1][1]; }", "record a { x: bytes[1 2]; }", "record a { x: bytes[1:]; }", "record a { x: bytes[{]; }",
		"record a { x: rest[1]; }", "record a { x: rest[]; }", "record a { x: u8[1]; }", "record a { x: align; }", "record a { x: align n; }", "record a { x: align 1 + 1; }", "record a { x: align[1]; }", "record a { x: align 1048577; }", "record a { x: align 4611686018427387904; }",
		"record a { x: b[1; }", "record a { x: b]; }", "record a { x: b[; }", "record a { x: b(1); }", "record a { x: b b; }", "record a { x: b[()]; }",
		"record a { x: pick { }; }", "record a { x: pick n; }", "record a { x: pick n { } }", "record a { x: pick n { 1: b }; }", "record a { x: pick n { 1 b; }; }", "record a { x: pick n { 1: b; else c; 2: d; }; }", "record a { x: pick n { else b; else c; }; }", "record a { x: pick n { else: b; }; }", "record a { x: pick n { else 1; }; }",
		"record a { x: pick n { m: b; }; }", "record a { x: pick n { 1: 2; }; }", "record a { x: pick n { 1: b[]; }; }", "record a { x: pick n { 1: u8; }; }", "record a { x: pick n { 1: b;; }; }", "record a { x: pick n [ 1: b; ]; }", "record a { x: pick n { ; }; }", "record a { x: pick n { 1: b; } else c; }", "record a { x: pick n { 1 + 1: b; }; }", "record a { x: pick n m { }; }",
		"record a { x: U8; y: u16; }; ", "record a { x: u16 is 1; }", "record a { x: u8le is 1; }", "record a { x: u8 is 4611686018427387905; }", "record a { x: u8 is 1a; }", "record a { x: u8 is 1at p; }", "record a { x: u8 is 0x; }", "record a { x: u8 is -1; }",
		"record a { x: bytes[4611686018427387905]; }", "record a { x: bytes[1a]; }", "record a { } /* b */", "record a { } # b", "record a { } \x00", "\xef\xbb\xbfrecord a { }", "record a\r\n{ }", "record \"a\" { }", "record é { }", "record a. { }", "record a-b { }"} {
		wantsError(t, s, api.ErrSyntax)
		if modelGood(s) {
			t.Errorf("%q: the grammar allows it", s)
		}
	}
}

// TestP12_1Names: no quoted word is a name, except inside an expression; any other word of up to 16 letters and digits is.
func TestP12_1Names(t *testing.T) {
	forms := []string{"record # { }", "record a { #: u8; }", "record a { x: #; }", "record a { x: #[1]; }", "record a { x: #[]; }", "record a { x: b at #; }", "record a { x: u8 size #; }", "record a { x: u8 count #; }", "record a { x: u8 offset #; }",
		"record a { x: u8 crc # y; }", "record a { x: u8 crc y #; }", "record a { x: u8 adler # y; }", "record a { x: u8 adler y #; }", "record a { x: pick 1 { 1: #; }; }", "record a { x: pick 1 { else #; }; }"}
	words := quotedWords()
	if len(words) != 21 {
		t.Errorf("%d words: %v", len(words), words)
	}
	for _, f := range forms {
		for _, w := range words {
			s := strings.ReplaceAll(f, "#", w)
			if good := holds(t, s); good && !slices.Contains([]string{"record a { x: bytes[1]; }", "record a { x: rest; }"}, s) && !strings.HasPrefix(s, "record a { x: u") {
				t.Errorf("%q: a quoted word is no name", s)
			}
			for _, other := range []string{w + "_", "_" + w, w + "0", strings.ToUpper(w[:1]) + w[1:], w[:len(w)-1] + "z"} {
				if !holds(t, strings.ReplaceAll(f, "#", other)) {
					t.Errorf("%q in %q: it is a name", other, f)
				}
			}
		}
		for _, w := range []string{name16, "_", "A", "z9", "x0x", strings.Repeat("_", 16)} {
			if _, e := Parse(strings.ReplaceAll(f, "#", w)); e != api.OK {
				t.Errorf("%q in %q: %d", w, f, e)
			}
		}
		for _, w := range []string{name16 + "q", name16 + "1", strings.Repeat("a", 32), strings.Repeat("a", 1000), "1", "1a", "", "é", "a.b", "+", "a b c", "0x1"} {
			wantsError(t, strings.ReplaceAll(f, "#", w), api.ErrSyntax)
		}
	}
	for _, f := range []string{"record a { x: bytes[#]; }", "record a { x: b[1 + #]; }", "record a { x: pick # { }; }", "record a { x: pick (#) { }; }"} {
		for _, w := range words {
			if _, e := Parse(strings.ReplaceAll(f, "#", w)); e != api.OK {
				t.Errorf("%q in %q: %d", w, f, e)
			}
		}
	}
}

// TestP12_1Bytes: of all bytes only three separate.
func TestP12_1Bytes(t *testing.T) {
	text := "record a { x: u16le is 7 at p shared; y: pick n { 1: b; else c; }; }"
	want, e := Parse(text)
	if e != api.OK {
		t.Fatal(e)
	}
	for i := range len(text) {
		for c := range 256 {
			s := text[:i] + string([]byte{byte(c)}) + text[i:]
			good := holds(t, s)
			if text[i] == ' ' && strings.IndexByte(" \t\n", byte(c)) >= 0 {
				if !good {
					t.Errorf("%q", s)
				}
				wantsParse(t, s, want, api.OK)
				wantsParse(t, text[:i]+string([]byte{byte(c)})+text[i+1:], want, api.OK)
			}
		}
	}
}

// TestP12_1Concatenated: the lists of all expressions stand one after the other, also across records.
func TestP12_1Concatenated(t *testing.T) {
	s := "record a { x: bytes[1 + m]; y: u8; z: b[n]; } record b { } record c { x: pick 2 * (3 - k) { 1: b; }; y: bytes[4]; }"
	want := api.Desc{
		Recs: []api.Rec{
			{Name: "a", Fields: []api.Field{{Name: "x", Kind: api.FBytes, E: 2}, {Name: "y", Kind: api.FInt, Width: 1, E: -1}, {Name: "z", Kind: api.FArray, Rec: "b", E: 3}}},
			{Name: "b"},
			{Name: "c", Fields: []api.Field{{Name: "x", Kind: api.FPick, E: 8, Cases: []api.Case{{N: 1, Rec: "b"}}}, {Name: "y", Kind: api.FBytes, E: 9}}},
		},
		Exps: []api.Exp{{N: 1}, {Name: "m"}, {Op: "+", L: 0, R: 1}, {Name: "n"}, {N: 2}, {N: 3}, {Name: "k"}, {Op: "-", L: 5, R: 6}, {Op: "*", L: 4, R: 7}, {N: 4}},
	}
	wantsParse(t, s, want, api.OK)
	// Numbers and parentheses may be written otherwise.
	wantsParse(t, strings.NewReplacer("2", "0x002", "4", "((04))", "n]", "(n)]").Replace(s), want, api.OK)
}

func TestP12_1Numbers(t *testing.T) {
	for s, n := range map[string]uint64{"0": 0, "007": 7, "0xff": 255, "0x4000000000000000": 1 << 62, "4611686018427387904": 1 << 62} {
		wantsParse(t, "record a { x: u8 is "+s+"; }", one(api.Field{Kind: api.FInt, E: -1, Width: 1, Is: true, Const: n}), api.OK)
		wantsParse(t, "record a { x: u8 is "+s+" at p; }", one(api.Field{Kind: api.FInt, E: -1, Width: 1, Is: true, Const: n, At: "p"}), api.OK)
		wantsParse(t, "record a { x: pick 2{"+s+":b;}; }", one(api.Field{Kind: api.FPick, Cases: []api.Case{{N: n, Rec: "b"}}}, api.Exp{N: 2}), api.OK)
	}
	for s, n := range map[string]int{"0": 0, "0x1000": 4096, "4097": 4097, "0x100000": 1 << 20} {
		wantsParse(t, "record a { x: align "+s+"; }", one(api.Field{Kind: api.FAlign, E: -1, Align: n}), api.OK)
	}
	for _, s := range []string{"0x100001", "1048577", "0x4000000000000000", "4611686018427387905", "9223372036854775808", "18446744073709551616"} {
		wantsError(t, "record a { x: align "+s+"; }", api.ErrSyntax)
	}
}

// times is a text so often, where # is the number.
func times(n int, s string) string {
	var b strings.Builder
	for i := range n {
		b.WriteString(strings.ReplaceAll(s, "#", strconv.Itoa(i)))
	}
	return b.String()
}

func TestP12_1Counts(t *testing.T) {
	for _, c := range []struct {
		s string
		e api.Errno
	}{
		{times(40, "record a# { } "), api.OK},
		{times(41, "record a# { } "), api.ErrSyntax},
		{times(40, "record a { } "), api.OK},
		{"record a { " + times(40, "x#: u8; ") + "}", api.OK},
		{"record a { " + times(41, "x#: u8; ") + "}", api.ErrSyntax},
		{times(40, "record a { "+times(40, "x:b;")+"}"), api.OK},
		{times(39, "record a { "+times(40, "x:b;")+"}") + "record a { " + times(41, "x:b;") + "}", api.ErrSyntax},
		{"record a { x: pick n { " + times(20, "#: b; ") + "}; }", api.OK},
		{"record a { x: pick n { " + times(20, "#: b; ") + "else b; }; }", api.OK},
		{"record a { x: pick n { " + times(21, "#: b; ") + "}; }", api.ErrSyntax},
		{"record a { x: pick n { " + times(21, "#: b; ") + "else b; }; }", api.ErrSyntax},
		{"record a { " + times(40, "x: pick n { "+times(20, "#: b; ")+"};") + "}", api.OK},
		{"record a { x: bytes[" + times(199, "1+") + "1]; }", api.OK},
		{"record a { x: bytes[" + times(200, "1+") + "1]; }", api.ErrSyntax},
		{"record a { x: bytes[" + times(199, "1+") + "1]; y: bytes[1]; }", api.OK},
		{"record a { x: bytes[" + times(199, "1+") + "1]; y: bytes[1]; z: b[1]; }", api.ErrSyntax},
		{"record a { x: bytes[" + times(199, "1+") + "1]; y: bytes[1]; } record b { x: pick 1 { }; }", api.ErrSyntax},
		{"record a { x: bytes[" + times(199, "1+") + "1]; y: bytes[1 + 1]; }", api.ErrSyntax},
		{times(10, "record a { "+times(40, "x:b[1];")+"}"), api.OK},
		{times(10, "record a { "+times(40, "x:b[1];")+"}") + "record b { x: bytes[1]; }", api.ErrSyntax},
		{times(10, "record a { "+times(40, "x:b[1];")+"}") + "record b { x: b[]; y: rest; }", api.OK},
		{"record a { x: bytes[" + times(20, "(") + "1" + times(20, ")") + "]; }", api.OK},
		{"record a { x: bytes[" + times(21, "(") + "1" + times(21, ")") + "]; }", api.ErrSyntax},
	} {
		d, e := Parse(c.s)
		if e != c.e {
			t.Errorf("%.200q (%d bytes): %d, not %d", c.s, len(c.s), e, c.e)
		}
		if s, e := Print(d); e == api.OK && c.e == api.OK {
			wantsParse(t, s, d, api.OK)
		}
	}
}

func TestP12_1Limit(t *testing.T) {
	for s, e := range map[string]api.Errno{"": api.OK, "record a { }": api.OK, "record": api.ErrSyntax, "}": api.ErrSyntax, "\x00": api.ErrSyntax} {
		for _, f := range []func(string, string) string{func(a, b string) string { return a + b }, func(a, b string) string { return b + a }} {
			for n, want := range map[int]api.Errno{19999: e, 20000: e, 20001: api.ErrLimit, 1 << 20: api.ErrLimit} {
				if d, got := Parse(f(s, strings.Repeat(" ", n-len(s)))); got != want || want != api.OK && d.Recs != nil {
					t.Errorf("%d bytes with %q: %d, not %d", n, s, got, want)
				}
			}
		}
	}
}

func TestP12_1RandomTexts(t *testing.T) {
	random := rand.New(rand.NewSource(1))
	seen := map[bool]int{}
	for range 3000 {
		d := randomDesc(random)
		tokens := tokensOfDesc(d)
		wantsParse(t, spread(random, tokens), d, api.OK)
		if len(tokens) == 0 {
			continue
		}
		for range 3 {
			i, j := random.Intn(len(tokens)), random.Intn(len(tokens))
			changed := slices.Clone(tokens)
			switch random.Intn(4) {
			case 0:
				changed = slices.Delete(changed, i, i+1)
			case 1:
				changed = slices.Insert(changed, i, tokens[j])
			case 2:
				changed[i] = tokens[j]
			case 3:
				changed = changed[:i]
			}
			s := spread(random, changed)
			if random.Intn(8) == 0 {
				s = strings.Replace(s, " ", "", 1)
			}
			seen[holds(t, s)]++
		}
	}
	if seen[true] < 300 || seen[false] < 3000 {
		t.Errorf("%v", seen)
	}
}

func TestExampleOfTheChapter(t *testing.T) {
	s := "record a { n: u8 size b; b: bytes[n]; }"
	d := api.Desc{
		Recs: []api.Rec{{Name: "a", Fields: []api.Field{
			{Name: "n", Kind: api.FInt, Width: 1, Auto: api.AutoSize, A: "b", E: -1},
			{Name: "b", Kind: api.FBytes, E: 0},
		}}},
		Exps: []api.Exp{{Name: "n"}},
	}
	wantsParse(t, s, d, api.OK)
	wantsPrint(t, d, "record a {\n  n: u8 size b;\n  b: bytes[n];\n}\n", api.OK)
}
