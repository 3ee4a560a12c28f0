package win

import (
	"encoding/binary"
	"math"
	"math/big"
	"testing"

	"mortise/api"
)

// edges are numbers around all bounds that the chapter names, and around those of int.
func edges() []int {
	var l []int
	for _, n := range []int{0, 7, 1 << 20, 1 << 31, 1 << 32, 3037000500, 1 << 61, 1 << 62} {
		l = append(l, n-2, n-1, n, n+1, n+2, -n)
	}
	return append(l, math.MinInt, math.MinInt+1, math.MaxInt-1, math.MaxInt)
}

// offset gives the number if all of these are offsets.
func offset(result *big.Int, args ...int) (int, bool) {
	most := new(big.Int).Lsh(big.NewInt(1), 62)
	for _, n := range args {
		if n < 0 || n > 1<<62 {
			return 0, false
		}
	}
	if result.Sign() < 0 || result.Cmp(most) > 0 {
		return 0, false
	}
	return int(result.Int64()), true
}

func TestP1_1AddAndMul(t *testing.T) {
	for _, a := range edges() {
		for _, b := range edges() {
			x, y := big.NewInt(int64(a)), big.NewInt(int64(b))
			want, ok := offset(new(big.Int).Add(x, y), a, b)
			if n, k := Add(a, b); n != want || k != ok {
				t.Errorf("Add(%d, %d): %d, %v, not %d, %v", a, b, n, k, want, ok)
			}
			want, ok = offset(new(big.Int).Mul(x, y), a, b)
			if n, k := Mul(a, b); n != want || k != ok {
				t.Errorf("Mul(%d, %d): %d, %v, not %d, %v", a, b, n, k, want, ok)
			}
		}
	}
}

func TestP1_1Align(t *testing.T) {
	for n := range 70 {
		for a := 1; a < 40; a++ {
			want := 0
			for want < n {
				want += a
			}
			if got, ok := Align(n, a); got != want || !ok {
				t.Errorf("Align(%d, %d): %d, %v, not %d", n, a, got, ok, want)
			}
		}
	}
	for _, n := range edges() {
		for _, a := range edges() {
			want, ok := 0, false
			if a >= 1 && a <= 1<<20 {
				x, y := big.NewInt(int64(n)), big.NewInt(int64(a))
				times := new(big.Int).Add(x, big.NewInt(int64(a-1)))
				want, ok = offset(times.Div(times, y).Mul(times, y), n)
			}
			if got, k := Align(n, a); got != want || k != ok {
				t.Errorf("Align(%d, %d): %d, %v, not %d, %v", n, a, got, k, want, ok)
			}
		}
	}
}

// numbers are all powers of 2, with their neighbours, and one whose bytes all differ.
func numbers() []uint64 {
	l := []uint64{0, 0x0123456789abcdef, math.MaxUint64}
	for i := range 64 {
		p := uint64(1) << i
		l = append(l, p-1, p, p+1)
	}
	return l
}

func encode(n uint64, width int, high bool) string {
	b := binary.BigEndian.AppendUint64(nil, n)[8-width:]
	if !high {
		b = binary.LittleEndian.AppendUint64(nil, n)[:width]
	}
	return string(b)
}

func TestP1_2Bytes(t *testing.T) {
	for _, width := range []int{1, 2, 4, 8} {
		for _, n := range numbers() {
			for _, high := range []bool{false, true} {
				want, wantE := encode(n, width, high), api.OK
				if width < 8 && n >= 1<<(8*width) {
					want, wantE = "", api.ErrField
				}
				if s, e := Bytes(n, width, high); s != want || e != wantE {
					t.Errorf("Bytes(%d, %d, %v): %x, %d, not %x, %d", n, width, high, s, e, want, wantE)
				}
			}
		}
	}
}

func TestP1_2NotAWidth(t *testing.T) {
	for _, width := range []int{math.MinInt, -8, -1, 0, 3, 5, 6, 7, 9, 16, 64, math.MaxInt} {
		for _, n := range []uint64{0, math.MaxUint64} { // R2: the width is asked first
			if s, e := Bytes(n, width, true); s != "" || e != api.ErrArg {
				t.Errorf("Bytes(%d, %d): %x, %d", n, width, s, e)
			}
		}
		for _, at := range []int{0, 99} {
			if n, e := Of("abcdefghijklmnop").Uint(at, width, true); n != 0 || e != api.ErrArg {
				t.Errorf("Uint(%d, %d): %d, %d", at, width, n, e)
			}
		}
	}
}

// part tells what Sub must return of a text.
func part(text string, at int, n int) (string, api.Errno) {
	if at < 0 || n < 0 {
		return "", api.ErrArg
	}
	end := new(big.Int).Add(big.NewInt(int64(at)), big.NewInt(int64(n)))
	if end.Cmp(big.NewInt(int64(len(text)))) > 0 {
		return "", api.ErrCut
	}
	return text[at : at+n], api.OK
}

func places() []int {
	return append(edges(), 3, 4, 5, 6)
}

func TestP1_3Sub(t *testing.T) {
	whole := "abcdef"
	outer, _ := Of(whole).Sub(1, 4)
	for _, c := range []struct {
		w    Window
		base int
		text string
	}{{Of(whole), 0, whole}, {outer, 1, "bcde"}, {Window{}, 0, ""}, {Of(""), 0, ""}} {
		if c.w.Base() != c.base || c.w.Len() != len(c.text) || c.w.Text() != c.text {
			t.Errorf("%d, %d, %q, not %d, %q", c.w.Base(), c.w.Len(), c.w.Text(), c.base, c.text)
		}
		for _, at := range places() {
			for _, n := range places() {
				want, wantE := part(c.text, at, n)
				v, e := c.w.Sub(at, n)
				if v.Text() != want || v.Len() != len(want) || e != wantE {
					t.Errorf("%q: Sub(%d, %d): %q, %d, not %q, %d", c.text, at, n, v.Text(), e, want, wantE)
				}
				if e == api.OK && v.Base() != c.base+at || e != api.OK && v != (Window{}) {
					t.Errorf("%q: Sub(%d, %d): base %d", c.text, at, n, v.Base())
				}
			}
		}
	}
}

func TestP1_3Uint(t *testing.T) {
	whole := "\x80\x91\xa2\xb3\xc4\xd5\xe6\xf7\x08\x19\x2a"
	inner, _ := Of(whole).Sub(1, 9)
	for _, width := range []int{1, 2, 4, 8} {
		for _, at := range append(places(), 7, 8, 9, 10) {
			want, wantE := part(inner.Text(), at, width)
			for _, high := range []bool{false, true} {
				n, e := inner.Uint(at, width, high)
				if e != wantE || e != api.OK && n != 0 || e == api.OK && encode(n, width, high) != want {
					t.Errorf("Uint(%d, %d, %v): %x, %d, not %x, %d", at, width, high, n, e, want, wantE)
				}
			}
		}
	}
	if n, e := (Window{}).Uint(0, 1, true); n != 0 || e != api.ErrCut {
		t.Errorf("the zero window: %d, %d", n, e)
	}
}

func TestP1_4ReadAsWritten(t *testing.T) {
	for _, width := range []int{1, 2, 4, 8} {
		for _, n := range numbers() {
			for _, high := range []bool{false, true} {
				s, e := Bytes(n, width, high)
				if e != api.OK {
					continue
				}
				w, _ := Of("<<<"+s+">").Sub(2, width+1)
				if got, e := w.Uint(1, width, high); got != n || e != api.OK {
					t.Errorf("%d in %d bytes, %v: read as %d, %d", n, width, high, got, e)
				}
			}
		}
	}
}

func TestP1_4PartOfAPart(t *testing.T) {
	whole := Of("abcdefg")
	for at := range 8 {
		for n := 0; at+n <= 7; n++ {
			outer, _ := whole.Sub(at, n)
			for in := range 9 {
				for m := range 9 {
					inner, e := outer.Sub(in, m)
					if in+m > n {
						if e != api.ErrCut || inner != (Window{}) {
							t.Errorf("%d %d, then %d %d: %v, %d", at, n, in, m, inner, e)
						}
						continue
					}
					if want, _ := whole.Sub(at+in, m); inner != want || e != api.OK {
						t.Errorf("%d %d, then %d %d: %v, %d, not %v", at, n, in, m, inner, e, want)
					}
				}
			}
		}
	}
}

func TestExamplesOfTheChapter(t *testing.T) {
	if _, ok := Add(1<<62, 1); ok {
		t.Error("Add")
	}
	if n, ok := Mul(1<<31, 1<<31); n != 1<<62 || !ok {
		t.Error("Mul")
	}
	if n, ok := Align(5, 4); n != 8 || !ok {
		t.Error("Align")
	}
	if s, e := Bytes(258, 2, true); s != "\x01\x02" || e != api.OK {
		t.Error("Bytes of 258")
	}
	if _, e := Bytes(256, 1, true); e != api.ErrField {
		t.Error("Bytes of 256")
	}
	w, _ := Of("abcd").Sub(1, 2)
	if n, e := w.Uint(0, 2, true); n != 0x6263 || e != api.OK {
		t.Error("Uint")
	}
	if _, e := Of("abcd").Sub(3, 2); e != api.ErrCut {
		t.Error("Sub")
	}
}

func TestR6AskedAgain(t *testing.T) {
	w, _ := Of("abcd").Sub(1, 3)
	for range 3 {
		if n, e := w.Uint(1, 2, false); n != 0x6463 || e != api.OK {
			t.Errorf("%x, %d", n, e)
		}
		if v, e := w.Sub(1, 1); v.Text() != "c" || e != api.OK {
			t.Errorf("%q, %d", v.Text(), e)
		}
		if w.Base() != 1 || w.Text() != "bcd" {
			t.Errorf("%d, %q", w.Base(), w.Text())
		}
	}
}
