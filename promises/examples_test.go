// Package promises holds the whole program against the promises, rules and examples that the document gives for all layers together. Each layer's own promises are tested in its package.
package promises

import (
	"reflect"
	"strings"
	"testing"

	"mortise/api"
	"mortise/check"
	"mortise/desc"
	"mortise/inflate"
	"mortise/kit"
	"mortise/layout"
	"mortise/lazy"
	"mortise/parse"
	"mortise/png"
	"mortise/src"
	"mortise/tar"
	"mortise/whole"
	"mortise/zip"
)

func described(t *testing.T, text string) api.Desc {
	t.Helper()
	d, e := desc.Parse(text)
	if e != api.OK {
		t.Fatalf("%s: %d", text, e)
	}
	return d
}

// reads is the error of parse.Parse.
func reads(t *testing.T, text string, b string, fuel int) api.Errno {
	t.Helper()
	x, l, e := parse.Parse(described(t, text), b, fuel)
	if e != api.OK && (x.N != 0 || x.S != "" || x.L != nil || l != nil) {
		t.Errorf("%s, %q, %d: %v, %v, %d", text, b, fuel, x, l, e)
	}
	return e
}

func isError(t *testing.T, got api.Errno, want api.Errno) {
	t.Helper()
	if got != want {
		t.Errorf("%d, not %d", got, want)
	}
}

func leaf(n uint64, s string) api.Node { return api.Node{N: n, S: s} }

func node(l ...api.Node) api.Node { return api.Node{L: l} }

const counted = "record a { n: u8 size b; b: bytes[n]; }"

func TestExample1(t *testing.T) {
	d := described(t, counted)
	b, _, e := layout.Layout(d, node(leaf(0, ""), leaf(0, "xy")), 9)
	if b != "\x02xy" || e != api.OK {
		t.Errorf("%q, %d", b, e)
	}
	x, _, e := parse.Parse(d, b, 9)
	if !reflect.DeepEqual(x, node(leaf(2, ""), leaf(0, "xy"))) || e != api.OK {
		t.Errorf("%v, %d", x, e)
	}
}

func TestExample2(t *testing.T) {
	isError(t, reads(t, counted, "\x05x", 9), api.ErrCut)
	isError(t, reads(t, counted, "\x01x", 1), api.ErrFuel)
	isError(t, reads(t, counted, "\x01x", 2), api.OK)
}

func TestExample3(t *testing.T) {
	text := "record a { p: u8 offset q; q: c at p; r: u8; } record c { x: u16be; }"
	isError(t, reads(t, text, "\x01\x09\x01\x02", 9), api.ErrOverlap)
	isError(t, reads(t, text, "\x02\x09\x01\x02", 9), api.OK)
}

func TestExample4(t *testing.T) {
	isError(t, check.Check(described(t, "record a { b: bytes[n]; n: u8; }")), api.ErrType)
}

func TestExample5(t *testing.T) {
	s, _ := png.Encode(api.Image{W: 3, H: 2, Samples: 3, Pixels: "abcdefghijklmnopqr"})
	l, _ := png.Split(s)
	x, e := kit.Tree("png", s)
	if e != api.OK || len(x.L[2].L) != len(l) {
		t.Fatalf("%v, %d", x, e)
	}
	for i, c := range l {
		if x.L[2].L[i].L[2].S != c.Data {
			t.Errorf("%v, not %v", x.L[2].L[i], c)
		}
	}
	at := strings.Index(s, "IDAT") + 4
	_, e = kit.Tree("png", s[:at]+"?"+s[at+1:])
	isError(t, e, api.ErrSum)
}

func TestExample6(t *testing.T) {
	d := described(t, counted)
	for _, step := range []api.Step{{Kind: api.SrcShort, N: 1}, {Kind: api.SrcShort}, {Kind: api.SrcFault}} {
		s, _ := src.New("\x02xyz", []api.Step{step, step})
		r, _ := lazy.Open(d, s)
		for s.Left() > 0 {
			if _, e := r.Get([]int{1}); step.Kind == api.SrcFault {
				isError(t, e, api.ErrFault)
			} else {
				isError(t, e, api.OK)
			}
		}
		if x, e := r.Get([]int{1}); !reflect.DeepEqual(x, leaf(0, "xy")) || e != api.OK {
			t.Errorf("%v, %d", x, e)
		}
	}
}

func TestExample7(t *testing.T) {
	if s, n, e := inflate.Inflate("\x03\x00", 0); s != "" || n != 2 || e != api.OK {
		t.Errorf("%q, %d, %d", s, n, e)
	}
	_, _, e := inflate.Inflate("\x07", 0)
	isError(t, e, api.ErrForm)
}

func TestExample8(t *testing.T) {
	x := api.Member{Name: "a", Data: "hello"}
	s, _ := zip.Write([]api.Member{x, x})
	// Both central headers lead to the first local header.
	at := len(s) - 22 - 5
	s = s[:at] + "\x00" + s[at+1:]
	_, e := zip.Read(s, 99)
	isError(t, e, api.ErrOverlap)
}

func TestExample9(t *testing.T) {
	if s, e := tar.Write(nil); s != strings.Repeat("\x00", 1024) || e != api.OK {
		t.Errorf("%q, %d", s, e)
	}
}

func TestExample10(t *testing.T) {
	if k := whole.Kind("OTTO"); k != "sfnt" {
		t.Error(k)
	}
	isError(t, whole.Check("OTTO", 0), api.ErrCut)
}
