package promises

import (
	"math"
	"math/rand"
	"reflect"
	"strings"
	"testing"

	"mortise/api"
	"mortise/bits"
	"mortise/check"
	"mortise/deflate"
	"mortise/desc"
	"mortise/elf"
	"mortise/exp"
	"mortise/huff"
	"mortise/inflate"
	"mortise/kit"
	"mortise/layout"
	"mortise/lazy"
	"mortise/match"
	"mortise/parse"
	"mortise/png"
	"mortise/regions"
	"mortise/samples"
	"mortise/sfnt"
	"mortise/src"
	"mortise/sums"
	"mortise/tar"
	"mortise/wav"
	"mortise/whole"
	"mortise/win"
	"mortise/zip"
	"mortise/zlib"
)

const calls = 500 // of each function

// functions are all of the chapters, but for those that return something with methods.
func functions() map[string]any {
	return map[string]any{
		"win.Add": win.Add, "win.Mul": win.Mul, "win.Align": win.Align, "win.Bytes": win.Bytes,
		"sums.Crc": sums.Crc, "sums.More": sums.More, "sums.Adler": sums.Adler, "sums.AdlerMore": sums.AdlerMore, "sums.Words": sums.Words, "sums.Tar": sums.Tar,
		"huff.Check": huff.Check, "huff.Codes": huff.Codes, "huff.Lengths": huff.Lengths,
		"inflate.Inflate": inflate.Inflate, "match.Expand": match.Expand, "match.Find": match.Find, "match.Cost": match.Cost,
		"deflate.Stored": deflate.Stored, "deflate.Fixed": deflate.Fixed, "deflate.Dynamic": deflate.Dynamic, "deflate.Deflate": deflate.Deflate,
		"zlib.Zip": zlib.Zip, "zlib.Unzip": zlib.Unzip,
		"exp.Check": exp.Check, "exp.Parse": exp.Parse, "exp.Print": exp.Print, "exp.Eval": exp.Eval,
		"desc.Parse": desc.Parse, "desc.Print": desc.Print, "check.Check": check.Check, "parse.Parse": parse.Parse, "layout.Layout": layout.Layout,
		"png.Split": png.Split, "png.Join": png.Join, "png.Decode": png.Decode, "png.Encode": png.Encode,
		"tar.Read": tar.Read, "tar.Write": tar.Write, "wav.Split": wav.Split, "wav.Join": wav.Join, "wav.Read": wav.Read, "wav.Write": wav.Write,
		"elf.Read": elf.Read, "elf.Write": elf.Write, "zip.Read": zip.Read, "zip.Write": zip.Write, "sfnt.Read": sfnt.Read, "sfnt.Write": sfnt.Write,
		"kit.Names": kit.Names, "kit.Text": kit.Text, "kit.Desc": kit.Desc, "kit.Tree": kit.Tree, "kit.Bytes": kit.Bytes,
		"whole.Kind": whole.Kind, "whole.Check": whole.Check, "whole.Repack": whole.Repack,
	}
}

// giver makes arguments, more often than not ones that are accepted.
type giver struct {
	*rand.Rand
	recent api.Desc // a node is mostly one of this
}

func (g *giver) number() int {
	l := []int{0, 1, 2, 3, 4, 7, 8, 15, 16, 22, 257, 512, 1000, 1 << 16, 1 << 20, 1<<30 - 1, 1 << 30, 1<<30 + 1, 1<<31 - 1, 1 << 31, 1 << 32, 1 << 40, 1<<62 - 1, 1 << 62, 1<<62 + 1, math.MaxInt, math.MinInt, -1, -2}
	if g.Intn(2) == 0 {
		return l[g.Intn(9)]
	}
	return l[g.Intn(len(l))]
}

// text is a word, a text that some layer reads, or a file or a part of one.
func (g *giver) text() string {
	words := []string{"", "x", "n", "abcd", "a\x00b", "IEND", "fmt ", "WAVE", "png", "elf", "sfnt", "wav", "tar", "record"}
	texts := []string{"1 + 2 * n", "(n - 4) << 3", "(((", counted, "\x03\x00", "\x07", "\x78\x9c\x03\x00\x00\x00\x00\x01", "\x02xy", "\x00\x00\x00\x00\x00\x00\x00\x01", strings.Repeat("ab", 256)}
	switch g.Intn(6) {
	case 0, 1:
		return words[g.Intn(len(words))]
	case 2:
		return texts[g.Intn(len(texts))]
	case 3:
		s, _ := png.Encode(api.Image{W: 1, H: 1, Samples: 1, Pixels: "x"})
		return s
	}
	f := formats()[g.Intn(6)]
	s, _ := f.some(g.Rand)
	if g.Intn(3) == 0 {
		return spoiled(g.Rand, s)
	}
	return s
}

// good is an argument that is accepted by some function; false if there is none of this type.
func (g *giver) good(t reflect.Type) (any, bool) {
	switch t {
	case reflect.TypeFor[api.Desc]():
		g.recent = random(g.Rand).d
		return g.recent, true
	case reflect.TypeFor[api.Node]():
		if len(g.recent.Recs) == 0 {
			g.recent, _ = kit.Desc("sfnt")
		}
		return samples.Node(g.Intn, g.recent), true
	case reflect.TypeFor[[]api.Exp]():
		l, _ := exp.Parse("(1 + n) * (m - 3)")
		return l, true
	case reflect.TypeFor[[]api.Chunk]():
		return append(samples.Chunks(g.Intn), api.Chunk{Type: "IEND"})[g.Intn(2):], true
	case reflect.TypeFor[api.Image]():
		return api.Image{W: 2, H: 1, Samples: 3, Pixels: "abcdef"}, true
	case reflect.TypeFor[[]api.Entry]():
		return samples.Entries(g.Intn), true
	case reflect.TypeFor[api.Sound]():
		return samples.Sound(g.Intn), true
	case reflect.TypeFor[api.Elf]():
		return samples.Elf(g.Intn), true
	case reflect.TypeFor[[]api.Member]():
		return samples.Members(g.Intn), true
	case reflect.TypeFor[[]api.Table]():
		return samples.Tables(g.Intn), true
	case reflect.TypeFor[[]api.Token]():
		return match.Find(g.text()), true
	}
	return nil, false
}

// value is an argument of a type.
func (g *giver) value(t reflect.Type, deep int) reflect.Value {
	if x, ok := g.good(t); ok && g.Intn(4) > 0 {
		return reflect.ValueOf(x)
	}
	switch t {
	case reflect.TypeFor[*src.Source]():
		s, _ := src.New(g.text(), script(g.Rand, true))
		return reflect.ValueOf([]*src.Source{nil, s}[g.Intn(2)])
	case reflect.TypeFor[*bits.Reader]():
		return reflect.ValueOf([]*bits.Reader{nil, bits.New(g.text())}[g.Intn(2)])
	}
	v := reflect.New(t).Elem()
	switch t.Kind() {
	case reflect.Int:
		v.SetInt(int64(g.number()))
	case reflect.Uint8, reflect.Uint32, reflect.Uint64:
		v.SetUint(uint64(g.number()))
	case reflect.Bool:
		v.SetBool(g.Intn(2) == 0)
	case reflect.String:
		v.SetString(g.text())
	case reflect.Slice:
		if n := g.Intn(5); deep < 4 && n > 0 {
			v = reflect.MakeSlice(t, n, n)
			for i := range n {
				v.Index(i).Set(g.value(t.Elem(), deep+1))
			}
			v = v.Slice(0, g.Intn(n+1)) // the rest is spare
		}
	case reflect.Struct:
		for i := range t.NumField() {
			v.Field(i).Set(g.value(t.Field(i).Type, deep+1))
		}
	}
	return v
}

// lists are all lists in a value, with their spare capacity.
func lists(v reflect.Value) []reflect.Value {
	var l []reflect.Value
	switch v.Kind() {
	case reflect.Slice:
		v = v.Slice(0, v.Cap())
		l = append(l, v)
		for i := range v.Len() {
			l = append(l, lists(v.Index(i))...)
		}
	case reflect.Struct:
		for i := range v.NumField() {
			l = append(l, lists(v.Field(i))...)
		}
	}
	return l
}

// copied is a value that shares no list with another one, but is the same, with its spare capacity.
func copied(v reflect.Value) reflect.Value {
	x := reflect.New(v.Type()).Elem()
	x.Set(v)
	switch v.Kind() {
	case reflect.Slice:
		if v.IsNil() {
			return x
		}
		x.Set(reflect.MakeSlice(v.Type(), v.Cap(), v.Cap()))
		for i := range v.Cap() {
			x.Index(i).Set(copied(v.Slice(0, v.Cap()).Index(i)))
		}
		return x.Slice(0, v.Len())
	case reflect.Struct:
		for i := range v.NumField() {
			x.Field(i).Set(copied(v.Field(i)))
		}
	}
	return x
}

// full are the lists of values, as what they hold.
func full(l []reflect.Value) []any {
	var all []any
	for _, v := range l {
		all = append(all, v.Interface())
		for _, x := range lists(v) {
			all = append(all, x.Interface())
		}
	}
	return all
}

// touch tells whether two lists share memory.
func touch(a reflect.Value, b reflect.Value) bool {
	end := func(v reflect.Value) uintptr { return v.Pointer() + uintptr(v.Cap())*v.Type().Elem().Size() }
	return max(a.Pointer(), b.Pointer()) < min(end(a), end(b))
}

func isEmpty(v reflect.Value) bool {
	return v.IsZero() || v.Kind() == reflect.Slice && v.Len() == 0
}

// isRefused tells whether results say that there is none.
func isRefused(out []reflect.Value) bool {
	for _, v := range out {
		if e, ok := v.Interface().(api.Errno); ok && e != api.OK || v.Kind() == reflect.Bool && !v.Bool() {
			return true
		}
	}
	return false
}

// isAlone holds results against R3: beside an error, or a false, there is nothing.
func isAlone(t *testing.T, name string, out []reflect.Value) {
	t.Helper()
	if !isRefused(out) {
		return
	}
	for _, v := range out {
		if _, ok := v.Interface().(api.Errno); !ok && !isEmpty(v) {
			t.Errorf("%s: %v beside an error", name, v)
		}
	}
}

// areNew holds results against R5: they share no memory with the arguments, nor with one another.
func areNew(t *testing.T, name string, in []reflect.Value, out []reflect.Value) {
	t.Helper()
	var given, made []reflect.Value
	for _, v := range in {
		given = append(given, lists(v)...)
	}
	for _, v := range out {
		made = append(made, lists(v)...)
	}
	for i, a := range made {
		for _, b := range given {
			if touch(a, b) {
				t.Errorf("%s: a list shares memory with an argument", name)
			}
		}
		for _, b := range made[:min(i, 300)] {
			if touch(a, b) {
				t.Errorf("%s: two lists share memory", name)
			}
		}
	}
}

// TestR1Functions calls all functions with anything (R1), and holds them against R3, R5 and R6.
func TestR1Functions(t *testing.T) {
	for name, f := range functions() {
		g := &giver{Rand: rand.New(rand.NewSource(100))}
		call, refused := reflect.ValueOf(f), 0
		for range calls {
			var in, again []reflect.Value
			for i := range call.Type().NumIn() {
				v := g.value(call.Type().In(i), 0)
				in, again = append(in, v), append(again, copied(v))
			}
			out := call.Call(in)
			isAlone(t, name, out)
			areNew(t, name, in, out)
			if !reflect.DeepEqual(full(in), full(again)) {
				t.Errorf("%s: an argument was changed", name)
			}
			if isRefused(out) {
				refused++
			}
			if other := call.Call(again); !reflect.DeepEqual(plain(other), plain(out)) {
				t.Errorf("%s: %v, not %v", name, other, out)
			}
		}
		if out := call.Type().Out(call.Type().NumOut() - 1); out == reflect.TypeFor[api.Errno]() && (refused < 10 || refused == calls) {
			t.Errorf("%s: %d of %d calls were refused", name, refused, calls)
		}
	}
}

// plain are results as what they hold.
func plain(l []reflect.Value) []any {
	var all []any
	for _, v := range l {
		all = append(all, v.Interface())
	}
	return all
}

// TestR1Methods calls all methods of anything that has some, also on nil.
func TestR1Methods(t *testing.T) {
	g := &giver{Rand: rand.New(rand.NewSource(101))}
	for range 200 {
		s, _ := src.New(g.text(), script(g.Rand, true))
		table, _ := huff.New([]int{2, 1, 3, 3})
		p := random(g.Rand)
		below, _ := src.New(p.b, script(g.Rand, true))
		reader, _ := lazy.Open(p.d, below)
		for _, x := range []any{win.Of(g.text()), win.Window{}, s, regions.New[[]int](), bits.New(g.text()), &bits.Writer{}, table, reader} {
			isCalled(t, g, reflect.ValueOf(x), 20, func(string, []reflect.Value) {})
		}
		for _, x := range []any{(*src.Source)(nil), (*regions.Set[int])(nil), (*bits.Reader)(nil), (*bits.Writer)(nil), (*huff.Table)(nil), (*lazy.Reader)(nil)} {
			isCalled(t, g, reflect.ValueOf(x), 5, func(name string, out []reflect.Value) {
				for _, v := range out {
					e, isError := v.Interface().(api.Errno)
					if isError && e != api.ErrArg || !isError && !isEmpty(v) && name != "Gaps" {
						t.Errorf("%s of a nil %T: %v", name, x, v)
					}
				}
			})
		}
	}
}

// isCalled calls methods of a value, as often as n tells, and holds their results against R3.
func isCalled(t *testing.T, g *giver, x reflect.Value, n int, see func(name string, out []reflect.Value)) {
	t.Helper()
	for range n {
		i := g.Intn(x.NumMethod())
		name, call := x.Type().Method(i).Name, x.Method(i)
		var in []reflect.Value
		for k := range call.Type().NumIn() {
			in = append(in, g.value(call.Type().In(k), 0))
		}
		out := call.Call(in)
		if name != "ReadAt" { // which returns bytes beside ErrCut
			isAlone(t, name, out)
		}
		see(name, out)
	}
}
