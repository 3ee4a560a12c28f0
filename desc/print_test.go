package desc

import (
	"math"
	"math/rand"
	"strings"
	"testing"

	"mortise/api"
)

func wantsPrint(t *testing.T, d api.Desc, s string, e api.Errno) {
	t.Helper()
	if p, f := Print(d); p != s || f != e {
		t.Errorf("%.500v: %.300q, %d, not %.300q, %d", d, p, f, s, e)
	}
}

func TestP12_2AllTypes(t *testing.T) {
	for s, d := range placed() {
		wantsPrint(t, d, "record a {\n  x: "+s+";\n}\n", api.OK)
	}
}

func TestP12_2Records(t *testing.T) {
	wantsPrint(t, api.Desc{}, "", api.OK)
	wantsPrint(t, api.Desc{Recs: []api.Rec{}, Exps: []api.Exp{}}, "", api.OK)
	wantsPrint(t, api.Desc{Recs: []api.Rec{{Name: "a"}}}, "record a {\n}\n", api.OK)
	wantsPrint(t, api.Desc{Recs: []api.Rec{{Name: "b", Fields: []api.Field{}}, {Name: "b"}}}, "record b {\n}\nrecord b {\n}\n", api.OK)
	wantsPrint(t, api.Desc{Recs: []api.Rec{{Name: "a", Fields: []api.Field{{Name: "x", Kind: api.FPick, Cases: []api.Case{}}}}}, Exps: []api.Exp{{N: 1}}}, "record a {\n  x: pick 1 { };\n}\n", api.OK)
}

// changes are what makes most fields one that no text stands for.
func changes() []func(*api.Field) {
	return []func(*api.Field){
		func(f *api.Field) { f.Name = "" },
		func(f *api.Field) { f.Name = "u8" },
		func(f *api.Field) { f.Name = name16 + "q" },
		func(f *api.Field) { f.Name = "x: u8; y" },
		func(f *api.Field) { f.Name = " x" },
		func(f *api.Field) { f.Kind = 0 },
		func(f *api.Field) { f.Kind = 9 },
		func(f *api.Field) { f.Kind = -1 },
		func(f *api.Field) { f.Width++ },
		func(f *api.Field) { f.Width = math.MinInt },
		func(f *api.Field) { f.Width, f.Big = 1, true },
		func(f *api.Field) { f.Const++ },
		func(f *api.Field) { f.Is, f.Const = true, 1<<62+1 },
		func(f *api.Field) { f.Is, f.Auto, f.A = true, api.AutoSize, "y" },
		func(f *api.Field) { f.Auto = 6 },
		func(f *api.Field) { f.Auto = -1 },
		func(f *api.Field) { f.Auto = api.AutoSize },
		func(f *api.Field) { f.Auto, f.A, f.B = api.AutoSize, "y", "z" },
		func(f *api.Field) { f.Auto, f.A = api.AutoCrc, "y" },
		func(f *api.Field) { f.Auto, f.B = api.AutoAdler, "y" },
		func(f *api.Field) { f.A = "y" },
		func(f *api.Field) { f.B = "y" },
		func(f *api.Field) { f.E++ },
		func(f *api.Field) { f.E-- },
		func(f *api.Field) { f.E = math.MaxInt },
		func(f *api.Field) { f.E = math.MinInt },
		func(f *api.Field) { f.Rec += "!" },
		func(f *api.Field) { f.Rec = "rest" },
		func(f *api.Field) { f.Rec = "bytes[1]" },
		func(f *api.Field) { f.At = "shared" },
		func(f *api.Field) { f.At = "p shared" },
		func(f *api.Field) { f.At = "1" },
		func(f *api.Field) { f.At, f.Shared = "", true },
		func(f *api.Field) { f.Align-- },
		func(f *api.Field) { f.Align = 1<<20 + 1 },
		func(f *api.Field) { f.Cases = append(f.Cases, api.Case{}) },
		func(f *api.Field) { f.Cases = append(f.Cases, api.Case{N: 1<<62 + 1, Rec: "b"}) },
		func(f *api.Field) { f.Cases = append(f.Cases, api.Case{Rec: "u8"}) },
		func(f *api.Field) { f.Cases = make([]api.Case, 10000) },
		func(f *api.Field) { f.Else = "else" },
		func(f *api.Field) { f.Else = "c; else d" },
	}
}

// stands is whether a text stands for a description: it is read as this.
func stands(s string, d api.Desc) bool {
	back, e := Parse(s)
	return e == api.OK && equal(back, d)
}

// samePrint holds Print against the model, and tells whether there is a text.
func samePrint(t *testing.T, d api.Desc) bool {
	t.Helper()
	s := modelPrint(d)
	if stands(s, d) {
		wantsPrint(t, d, s, api.OK)
		return true
	}
	wantsPrint(t, d, "", api.ErrArg)
	return false
}

func TestP12_2Changed(t *testing.T) {
	bad := map[int]int{}
	for _, d := range placed() {
		for i, change := range changes() {
			c := copied(d)
			change(&c.Recs[0].Fields[0])
			if !samePrint(t, c) {
				bad[i]++
			}
		}
	}
	for i := range changes() {
		if bad[i] < 10 {
			t.Errorf("change %d: %d times an error", i, bad[i])
		}
	}
}

// TestP12_2Unused: what its kind does not have is zero in each field.
func TestP12_2Unused(t *testing.T) {
	used := map[int]string{api.FInt: "Width Big Is Const Auto A B", api.FBytes: "E", api.FRest: "", api.FRec: "Rec", api.FArray: "E Rec", api.FFill: "Rec", api.FPick: "E Cases Else", api.FAlign: "Align"}
	members := map[string]func(*api.Field){
		"Width": func(f *api.Field) { f.Width = 1 },
		"Big":   func(f *api.Field) { f.Big = true },
		"Is":    func(f *api.Field) { f.Is = true },
		"Const": func(f *api.Field) { f.Const = 1 },
		"Auto":  func(f *api.Field) { f.Auto = api.AutoSize },
		"A":     func(f *api.Field) { f.A = "y" },
		"B":     func(f *api.Field) { f.B = "y" },
		"E":     func(f *api.Field) { f.E = 0 },
		"Rec":   func(f *api.Field) { f.Rec = "b" },
		"Align": func(f *api.Field) { f.Align = 4 },
		"Cases": func(f *api.Field) { f.Cases = []api.Case{{Rec: "b"}} },
		"Else":  func(f *api.Field) { f.Else = "b" },
	}
	for s, d := range placed() {
		for m, change := range members {
			c := copied(d)
			f := &c.Recs[0].Fields[0]
			if strings.Contains(" "+used[f.Kind]+" ", " "+m+" ") {
				continue
			}
			change(f)
			if p, e := Print(c); p != "" || e != api.ErrArg {
				t.Errorf("%q with %s: %q, %d", s, m, p, e)
			}
		}
	}
}

// TestP12_2Exps: the list holds just the fields' expressions, in the order in which they are read.
func TestP12_2Exps(t *testing.T) {
	bytes := func(e ...int) api.Desc {
		r := api.Rec{Name: "a"}
		for i, n := range e {
			r.Fields = append(r.Fields, api.Field{Name: "x" + string(rune('0'+i)), Kind: api.FBytes, E: n})
		}
		return api.Desc{Recs: []api.Rec{r}}
	}
	n, one, two := api.Exp{Name: "n"}, api.Exp{N: 1}, api.Exp{N: 2}
	op := func(l int, r int) api.Exp { return api.Exp{Op: "+", L: l, R: r} }
	for i, c := range []struct {
		d    api.Desc
		exps []api.Exp
		s    string
	}{
		{bytes(0), []api.Exp{n}, "record a {\n  x0: bytes[n];\n}\n"},
		{bytes(2), []api.Exp{n, one, op(0, 1)}, "record a {\n  x0: bytes[n + 1];\n}\n"},
		{bytes(0, 1), []api.Exp{n, one}, "record a {\n  x0: bytes[n];\n  x1: bytes[1];\n}\n"},
		{bytes(4), []api.Exp{n, one, two, op(1, 2), op(0, 3)}, "record a {\n  x0: bytes[n + (1 + 2)];\n}\n"},
		{bytes(0, 3), []api.Exp{n, one, two, op(1, 2)}, "record a {\n  x0: bytes[n];\n  x1: bytes[1 + 2];\n}\n"},
		{bytes(), []api.Exp{n}, ""},
		{bytes(0), []api.Exp{n, one}, ""},
		{bytes(1), []api.Exp{n, one}, ""},
		{bytes(0, 0), []api.Exp{n}, ""},
		{bytes(1, 0), []api.Exp{n, one}, ""},
		{bytes(2), []api.Exp{n, one, op(1, 0)}, ""}, // the right one comes first
		{bytes(1), []api.Exp{n, op(0, 0)}, ""},
		{bytes(4), []api.Exp{n, one, op(0, 1), two, op(0, 3)}, ""},
		{bytes(0), nil, ""},
		{bytes(-1), []api.Exp{n}, ""},
		{bytes(0), []api.Exp{{Name: "1"}}, ""},
		{bytes(0), []api.Exp{{N: 1<<62 + 1}}, ""},
		{bytes(0), []api.Exp{{N: 1, L: 1}}, ""},
		{bytes(0), []api.Exp{op(0, 0)}, ""},
		{bytes(0), make([]api.Exp, 401), ""},
	} {
		c.d.Exps = c.exps
		e := api.OK
		if c.s == "" {
			e = api.ErrArg
		}
		if p, f := Print(c.d); p != c.s || f != e {
			t.Errorf("case %d: %q, %d", i, p, f)
		}
	}
}

// nested is an expression in so many parentheses.
func nested(deep int) api.Desc {
	d := one(api.Field{Kind: api.FBytes, E: 2 * (deep + 1)})
	for range deep + 2 {
		d.Exps = append(d.Exps, api.Exp{Name: "n"})
	}
	for i := range deep + 1 {
		d.Exps = append(d.Exps, api.Exp{Op: "-", L: deep - i, R: deep + 1 + i})
	}
	return d
}

func TestP12_2Limits(t *testing.T) {
	for deep, e := range map[int]api.Errno{0: api.OK, 1: api.OK, 20: api.OK, 21: api.ErrArg, 100: api.ErrArg} {
		s := strings.Repeat("n - (", deep) + "n - n" + strings.Repeat(")", deep)
		want := "record a {\n  x: bytes[" + s + "];\n}\n"
		if e != api.OK {
			want = ""
		}
		wantsPrint(t, nested(deep), want, e)
	}
	for _, c := range []struct {
		recs, fields, cases int
		e                   api.Errno
	}{{40, 1, 1, api.OK}, {41, 1, 1, api.ErrArg}, {1, 40, 1, api.OK}, {1, 41, 1, api.ErrArg}, {1, 1, 20, api.OK}, {1, 1, 21, api.ErrArg},
		{10, 40, 0, api.OK}, {40, 10, 0, api.OK}, {40, 11, 0, api.ErrArg}} {
		var d api.Desc
		for range c.recs {
			r := api.Rec{Name: "a"}
			for range c.fields {
				r.Fields = append(r.Fields, api.Field{Name: "x", Kind: api.FPick, E: len(d.Exps), Cases: make([]api.Case, c.cases)})
				for i := range c.cases {
					r.Fields[len(r.Fields)-1].Cases[i].Rec = "b"
				}
				d.Exps = append(d.Exps, api.Exp{N: 1})
			}
			d.Recs = append(d.Recs, r)
		}
		if samePrint(t, d) != (c.e == api.OK) {
			t.Errorf("%v", c)
		}
	}
}

// long is a description whose text has so many bytes, as its names are so long.
func long(n int) api.Desc {
	var d api.Desc
	more := n - 9*(13+40*13)
	name := func() string {
		k := min(more, 15)
		more -= k
		return name16[:1+k]
	}
	for range 9 {
		r := api.Rec{Name: "a"}
		for range 40 {
			r.Fields = append(r.Fields, api.Field{Name: name(), Kind: api.FRec, Rec: name(), At: name(), E: -1})
		}
		d.Recs = append(d.Recs, r)
	}
	return d
}

// TestP12_2Long: a text that is too long is none that Parse reads.
func TestP12_2Long(t *testing.T) {
	for n, e := range map[int]api.Errno{19999: api.OK, 20000: api.OK, 20001: api.ErrArg, 20500: api.ErrArg} {
		d := long(n)
		if s := modelPrint(d); len(s) != n {
			t.Errorf("%d bytes, not %d", len(s), n)
		}
		if samePrint(t, d) != (e == api.OK) {
			t.Errorf("%d bytes: not %d", n, e)
		}
	}
	// What could never be written is known soon.
	d := one(api.Field{Kind: api.FBytes, E: 399}, api.Exp{Name: name16})
	for i := range 399 {
		d.Exps = append(d.Exps, api.Exp{Op: "*", L: i, R: i})
	}
	wantsPrint(t, d, "", api.ErrArg)
	d.Recs = make([]api.Rec, 1<<14)
	wantsPrint(t, d, "", api.ErrArg)
	d.Recs = []api.Rec{{Name: "a", Fields: make([]api.Field, 1<<14)}}
	for i := range d.Recs[0].Fields {
		d.Recs[0].Fields[i] = api.Field{Kind: api.FPick, E: 399}
	}
	wantsPrint(t, d, "", api.ErrArg)
}

func TestP12_3Inverse(t *testing.T) {
	random := rand.New(rand.NewSource(2))
	for range 3000 {
		d := randomDesc(random)
		s := modelPrint(d)
		wantsPrint(t, d, s, api.OK)
		wantsParse(t, s, d, api.OK)
	}
}

// TestP12_3Canonical: however a text is spread, or its numbers and expressions are written, it is printed as one.
func TestP12_3Canonical(t *testing.T) {
	random := rand.New(rand.NewSource(3))
	for range 3000 {
		d := randomDesc(random)
		tokens := tokensOfDesc(d)
		for i, s := range tokens {
			switch {
			case i > 1 && (tokens[i-1] == "[" && s != "]" || tokens[i-2] == ":" && tokens[i-1] == "pick"):
				tokens[i] = "((" + s + "))"
			case isDecimal(s[0]) && random.Intn(2) == 0:
				tokens[i] = "0x" + numberOf(s).Text(16)
			case isDecimal(s[0]):
				tokens[i] = "00" + s
			}
		}
		s := spread(random, tokens)
		got, e := Parse(s)
		if e != api.OK || !equal(got, d) {
			t.Fatalf("%q: %v, %d", s, got, e)
		}
		wantsPrint(t, got, modelPrint(d), api.OK)
	}
}

// TestR5: arguments stay as they are, and what is returned is new, each list of it.
func TestR5(t *testing.T) {
	s := "record a { x: bytes[1 + n]; y: pick n { 1: b; 2: c; }; z: pick n { 1: b; }; } record b { v: u8; } record c { }"
	want, _ := Parse(s)
	d, _ := Parse(s)
	text, _ := Print(d)
	for range 2 {
		wantsPrint(t, d, text, api.OK)
	}
	if !equal(d, want) {
		t.Errorf("%v", d)
	}
	// Each list is appended to in its turn, and overwritten: no other one changes.
	for i := range d.Recs {
		for j := range d.Recs[i].Fields {
			f := &d.Recs[i].Fields[j]
			_ = append(f.Cases, api.Case{N: 99, Rec: "z"})
		}
		_ = append(d.Recs[i].Fields, api.Field{Name: "z"})
	}
	_ = append(d.Recs, api.Rec{Name: "z"})
	_ = append(d.Exps, api.Exp{N: 99})
	if !equal(d, want) {
		t.Errorf("%v", d)
	}
	for i := range d.Exps {
		d.Exps[i] = api.Exp{}
	}
	for i := range d.Recs {
		for j := range d.Recs[i].Fields {
			clear(d.Recs[i].Fields[j].Cases)
		}
		clear(d.Recs[i].Fields)
	}
	wantsParse(t, s, want, api.OK)
	wantsPrint(t, want, text, api.OK)
}
