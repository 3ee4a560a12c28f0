package zip

import (
	"bytes"
	"io"
	"math"
	"math/rand"
	"slices"
	"strings"
	"testing"

	other "archive/zip"

	"mortise/api"
	"mortise/deflate"
)

// sample is members of both methods, with and without Data.
func sample() []api.Member {
	return []api.Member{{Name: "a.txt", Time: 0x5a8c1234, Data: "hello"}, {Name: "dir/b", Method: 8, Time: 1<<32 - 1, Data: strings.Repeat("z", 500)}, {Name: "c", Method: 8}, {Name: "a.txt"}}
}

// parts are those of some members, as Write stores them.
func parts(l []api.Member) []part {
	var all []part
	for _, x := range l {
		packed := x.Data
		if x.Method == 8 {
			packed = deflate.Deflate(x.Data)
		}
		all = append(all, partOf(x, packed))
	}
	return all
}

func TestP21_1Fields(t *testing.T) {
	// All numbers, the lowest byte first: the Data of a stored member, and those of a deflated one, in a block of kind 0, ahead of it.
	deflated := "\x01\x03\x00\xfc\xffxyz"
	first := "PK\x03\x04\x14\x00\x00\x00\x00\x00\x01\x02\x03\x04\x86\xa6\x10\x36\x05\x00\x00\x00\x05\x00\x00\x00\x02\x00\x00\x00\x00\xff" + "hello"
	second := "PK\x03\x04\x14\x00\x00\x00\x08\x00\xff\xfe\xfd\xfc\x67\xba\x8e\xeb\x08\x00\x00\x00\x03\x00\x00\x00\x01\x00\x00\x00n" + deflated
	rest := "PK\x01\x02\x14\x00\x14\x00\x00\x00\x00\x00\x01\x02\x03\x04\x86\xa6\x10\x36\x05\x00\x00\x00\x05\x00\x00\x00\x02\x00\x00\x00" + "\x00\x00\x00\x00\x00\x00\x00\x00\x00\x00" + "\x2d\x00\x00\x00" + "\x00\xff" +
		"PK\x01\x02\x14\x00\x14\x00\x00\x00\x08\x00\xff\xfe\xfd\xfc\x67\xba\x8e\xeb\x08\x00\x00\x00\x03\x00\x00\x00\x01\x00\x00\x00" + "\x00\x00\x00\x00\x00\x00\x00\x00\x00\x00" + "\x03\x00\x00\x00" + "n"
	end := "PK\x05\x06\x00\x00\x00\x00\x02\x00\x02\x00\x5f\x00\x00\x00\x56\x00\x00\x00\x00\x00"
	s := "gap" + second + "gap" + first + "gap!" + rest + end
	want := []api.Member{{Name: "\x00\xff", Time: 0x4030201, Data: "hello"}, {Name: "n", Method: 8, Time: 0xfcfdfeff, Data: "xyz"}}
	if l, e := Read(s, 8); !slices.Equal(l, want) || e != api.OK {
		t.Errorf("%v, %d", l, e)
	}
	sameRead(t, s, 8)
	sameRead(t, s, 7)
	// A length and an offset of more than two bytes.
	long := strings.Repeat("0123456789", 7000)
	if l, e := Read(planOf(partOf(api.Member{Name: long[:700], Data: long}, long), partOf(want[1], deflated)).file(), 80000); len(l) != 2 || l[0] != (api.Member{Name: long[:700], Data: long}) || l[1] != want[1] || e != api.OK {
		t.Errorf("%v, %d", l, e)
	}
}

func TestP21_1Arguments(t *testing.T) {
	good, _ := Write(nil)
	for _, limit := range []int{-1, math.MinInt, 1<<30 + 1, 1 << 31, 1<<32 + 5, math.MaxInt} {
		for _, s := range []string{"", "x", good, good + "x"} {
			if l, e := Read(s, limit); l != nil || e != api.ErrArg {
				t.Errorf("%q, %d: %v, %d", s, limit, l, e)
			}
		}
	}
	for _, limit := range []int{0, 1, 1<<30 - 1, 1 << 30} {
		if l, e := Read(good, limit); l != nil || e != api.OK {
			t.Errorf("%d: %v, %d", limit, l, e)
		}
	}
}

// TestP21_1Cut: at each place, as it is, and with an end that is right.
func TestP21_1Cut(t *testing.T) {
	p := planOf(parts(sample())...)
	s := p.file()
	for n := range len(s) {
		e := api.ErrForm
		if n < 22 {
			e = api.ErrCut
		}
		reads(t, s[:n], e)
		reads(t, s[len(s)-n:], map[bool]api.Errno{true: api.ErrForm, false: api.ErrCut}[n >= 22])
	}
	reads(t, s, api.OK)
	for n := range 30 {
		reads(t, strings.Repeat("x", n), map[bool]api.Errno{true: api.ErrForm, false: api.ErrCut}[n >= 22])
	}
	for n := range len(p.rest) {
		reads(t, plan{p.body, p.rest[:n], tail{p.Mark, 0, 0, 4, 4, uint32(n), p.At, 0}}.file(), api.ErrCut)
	}
	// Behind the members that are there, bytes are left, or others are missed.
	for n := range 10 {
		e := api.ErrCut
		if n < 4 {
			e = api.ErrForm
		}
		if n == 4 {
			e = api.OK
		}
		reads(t, plan{p.body, p.rest, tail{p.Mark, 0, 0, uint16(n), uint16(n), p.Width, p.At, 0}}.file(), e)
		left := p.rest + strings.Repeat("x", n)
		e = api.ErrForm
		if n == 0 {
			e = api.OK
		}
		reads(t, plan{p.body, left, tail{p.Mark, 0, 0, 4, 4, uint32(len(left)), p.At, 0}}.file(), e)
		reads(t, plan{p.body, left, tail{p.Mark, 0, 0, 5, 5, uint32(len(left)), p.At, 0}}.file(), api.ErrCut)
	}
}

// TestP21_1End: each byte of it with each value.
func TestP21_1End(t *testing.T) {
	for _, l := range [][]api.Member{nil, sample()} {
		s := planOf(parts(l)...).file()
		for i := len(s) - 22; i < len(s); i++ {
			for c := range 256 {
				e := api.ErrForm
				if byte(c) == s[i] {
					e = api.OK
				}
				reads(t, change(s, i, octet(c)), e)
			}
		}
		// That is known before anything is missed ahead of it.
		reads(t, change(s, len(s)-22, "X")[len(s)-22:], api.ErrForm)
		for _, tail := range []string{"x", "\x00", s[len(s)-22:]} {
			reads(t, s+tail, api.ErrForm)
		}
	}
	// Bytes ahead of the first member, but not ahead of the offsets.
	p := planOf()
	reads(t, plan{"front", "", tail{p.Mark, 0, 0, 0, 0, 0, 5, 0}}.file(), api.OK)
	reads(t, "front"+p.file(), api.ErrForm)
	// Both numbers together may not wrap around.
	for _, n := range []uint32{1, 22, 1 << 31, 1<<32 - 1} {
		reads(t, plan{"front", "", tail{p.Mark, 0, 0, 0, 0, n, 5 - n, 0}}.file(), api.ErrForm)
	}
}

// TestP21_1Central: each byte of a central header with each value.
func TestP21_1Central(t *testing.T) {
	p := planOf(parts(sample())...)
	first := 46 + len(sample()[0].Name)
	for i := range first {
		for c := range 256 {
			if byte(c) == p.rest[i] {
				continue
			}
			q := p
			q.rest = change(p.rest, i, octet(c))
			e := sameRead(t, q.file(), enough)
			want := api.ErrForm
			switch {
			case i >= 20 && i < 24 && e == api.ErrCut: // the packed Data end somewhere else
				want = api.ErrCut
			case i >= 28 && i < 30 && e == api.ErrCut: // the Name, too
				want = api.ErrCut
			case i >= 42 && i < 46 && e == api.ErrCut: // everything is somewhere else
				want = api.ErrCut
			}
			if e != want {
				t.Errorf("byte %d as %d: %d", i, c, e)
			}
		}
	}
	// Those that both headers have, if both say the same.
	base := parts(sample())[0]
	try := func(set func(x *top), e api.Errno) {
		t.Helper()
		p := base
		set(&p.top)
		p.agree()
		reads(t, planOf(p).file(), e)
		reads(t, planOf(p, parts(sample())[1]).file(), e)
		reads(t, planOf(parts(sample())[1], p).file(), e)
	}
	for _, n := range []uint16{1, 2, 8, 10, 19, 21, 45, 256 + 20, 20 << 8, 1 << 11, 1 << 15, 65535} {
		try(func(x *top) { x.Version = n }, api.ErrForm)
		try(func(x *top) { x.Flags = n }, api.ErrForm)
		try(func(x *top) { x.Extra = n }, api.ErrForm)
		try(func(x *top) { x.Method = n }, api.ErrForm)
		try(func(x *top) { x.Time = uint32(n) << 9 }, api.OK)
	}
	for _, n := range []uint32{1 << 31, 1<<31 + 5, 1<<32 - 1} {
		try(func(x *top) { x.Size = n }, api.ErrForm)
		try(func(x *top) { x.Time = n }, api.OK)
	}
	for _, n := range []uint32{1<<20 + 1, 1 << 30, 1<<30 + 1, 1<<31 - 1} {
		try(func(x *top) { x.Size = n }, api.ErrLimit)
	}
}

// TestP21_1Names: of any bytes, but not of none, and those of a header that is none are looked for first.
func TestP21_1Names(t *testing.T) {
	for c := range 256 {
		x := api.Member{Name: octet(c), Data: "x"}
		p := planOf(parts([]api.Member{x, x, {Name: "n" + octet(c) + "n"}})...)
		if l, e := Read(p.file(), 9); len(l) != 3 || l[0] != x || l[1] != x || l[2].Name != "n"+octet(c)+"n" || e != api.OK {
			t.Errorf("%d: %v, %d", c, l, e)
		}
	}
	for _, n := range []int{1, 2, 255, 256, 65534, 65535} {
		x := api.Member{Name: strings.Repeat("n", n), Data: "x"}
		reads(t, planOf(parts([]api.Member{x, x})...).file(), api.OK)
	}
	reads(t, planOf(parts([]api.Member{{Data: "x"}})...).file(), api.ErrForm)
	reads(t, planOf(parts([]api.Member{{Name: "a"}, {}})...).file(), api.ErrForm)
	p := planOf(parts([]api.Member{{Name: "name"}})...)
	for n := range 40 {
		q := p
		q.rest = "X" + change(p.rest, 28, le16(n))[1:]
		e := api.ErrForm
		if n > 4 {
			e = api.ErrCut
		}
		reads(t, q.file(), e)
	}
}

// TestP21_1Places: a local header and packed bytes that are not ahead of the central headers.
func TestP21_1Places(t *testing.T) {
	base := parts(sample())[0]
	whole := len(base.local())
	for front := range 4 {
		for behind := range 4 {
			body := strings.Repeat("f", front) + base.local() + strings.Repeat("b", behind)
			for at := range len(body) + 30 {
				p := base
				p.row.At = uint32(at)
				e := api.ErrForm
				if at == front {
					e = api.OK
				}
				if at+whole > len(body) {
					e = api.ErrCut
				}
				reads(t, ended(body, p.central(), 1).file(), e)
			}
			for _, at := range []uint32{1 << 16, 1<<31 - 1, 1 << 31, -uint32(whole), 1<<32 - 30, 1<<32 - 1} {
				p := base
				p.row.At = at
				reads(t, ended(body, p.central(), 1).file(), api.ErrCut)
			}
			for n := range 20 {
				p := base
				p.row.At, p.row.Packed = uint32(front), uint32(n)
				e := api.ErrForm
				if n == 5 {
					e = api.OK
				}
				if n > 5+behind {
					e = api.ErrCut
				}
				reads(t, ended(body, p.central(), 1).file(), e)
			}
			for _, n := range []uint32{1 << 31, 1<<32 - 1, 5 - uint32(whole)} {
				p := base
				p.row.At, p.row.Packed = uint32(front), n
				reads(t, ended(body, p.central(), 1).file(), api.ErrCut)
			}
		}
	}
	// What follows the first central header doesn't count, though the same bytes are there.
	p := base
	p.row.At = uint32(46 + len(base.name))
	reads(t, ended("", p.central()+base.local(), 1).file(), api.ErrCut)
}

// TestP21_1Local: each byte of a local header counts.
func TestP21_1Local(t *testing.T) {
	p := planOf(parts(sample())...)
	at := 0
	for _, x := range parts(sample()) {
		for i := range 30 + len(x.name) {
			for c := range 256 {
				q := p
				q.body = change(p.body, at+i, octet(c))
				reads(t, q.file(), map[bool]api.Errno{true: api.OK, false: api.ErrForm}[q.body == p.body])
			}
		}
		at += len(x.local())
	}
}

// TestP21_1Overlap: members at the same bytes, or within those of another.
func TestP21_1Overlap(t *testing.T) {
	x := parts(sample())[0]
	twice := func(y part, at int) part { y.row.At = uint32(at); return y }
	reads(t, ended(x.local(), x.central()+x.central(), 2).file(), api.ErrOverlap)
	reads(t, ended(x.local()+x.local(), x.central()+twice(x, len(x.local())).central(), 2).file(), api.OK)
	reads(t, ended(x.local()+x.local(), twice(x, len(x.local())).central()+x.central(), 2).file(), api.OK)
	reads(t, ended(x.local()+x.local(), x.central()+twice(x, len(x.local())).central()+x.central(), 3).file(), api.ErrOverlap)
	// One in the Data of another, at each place of them, and in both orders.
	for front := range 5 {
		for behind := range 5 {
			data := strings.Repeat("f", front) + x.local() + strings.Repeat("b", behind)
			y := partOf(api.Member{Name: "outer", Data: data}, data)
			z := twice(x, 35+front)
			for _, rest := range []string{y.central() + z.central(), z.central() + y.central()} {
				reads(t, ended(y.local(), rest, 2).file(), api.ErrOverlap)
			}
			reads(t, ended(y.local(), y.central(), 1).file(), api.OK)
			reads(t, ended(y.local(), z.central(), 1).file(), api.OK)
		}
	}
	// The last byte of one is the first one of another: they are not the ends of the other's bytes.
	for n := range 4 {
		data := "abc"
		y := partOf(api.Member{Name: "n", Data: data + x.local()[:n]}, data+x.local()[:n])
		body := y.local()[:len(y.local())-n] + x.local()
		e := api.ErrOverlap
		if n == 0 {
			e = api.OK
		}
		z := twice(x, len(y.local())-n)
		reads(t, ended(body, y.central()+z.central(), 2).file(), e)
		reads(t, ended(body, z.central()+y.central(), 2).file(), e)
	}
}

func TestP21_1Limit(t *testing.T) {
	l := sample()
	s := planOf(parts(l)...).file()
	for limit := range 520 {
		e := api.OK
		if limit < 505 {
			e = api.ErrLimit
		}
		if _, f := Read(s, limit); f != e {
			t.Errorf("%d: %d, not %d", limit, f, e)
		}
		sameRead(t, s, limit)
	}
	// It is what the headers say that counts, and it is known before the Data are looked at.
	for _, x := range parts(l)[:2] {
		x.top.Size++
		x.top.Crc++
		x.agree()
		s := planOf(x).file()
		n := int(x.top.Size)
		for limit, e := range map[int]api.Errno{0: api.ErrLimit, n - 1: api.ErrLimit, n: api.ErrForm, 1 << 30: api.ErrForm} {
			if m, f := Read(s, limit); m != nil || f != e {
				t.Errorf("%d: %v, %d, not %d", limit, m, f, e)
			}
			sameRead(t, s, limit)
		}
	}
	// Members that are without Data need no limit.
	reads(t, planOf(parts(l[2:])...).file(), api.OK)
	if _, e := Read(planOf(parts(l[2:])...).file(), 0); e != api.OK {
		t.Errorf("%d", e)
	}
}

// TestP21_1Stored: both lengths are the same.
func TestP21_1Stored(t *testing.T) {
	for n := range 8 {
		for k := range 8 {
			data := strings.Repeat("x", n)
			p := partOf(api.Member{Name: "n", Data: strings.Repeat("x", k)}, data)
			e := api.ErrForm
			if n == k {
				e = api.OK
			}
			reads(t, planOf(p).file(), e)
			// That is known before a wrong checksum.
			p.top.Crc ^= 1
			p.agree()
			if n == k {
				e = api.ErrSum
			}
			reads(t, planOf(p).file(), e)
		}
	}
}

// TestP21_1Deflated: what is wrong with deflated Data.
func TestP21_1Deflated(t *testing.T) {
	good := deflate.Deflate(strings.Repeat("abc", 100))
	try := func(packed string, data string, e api.Errno) {
		t.Helper()
		p := partOf(api.Member{Name: "n", Method: 8, Data: data}, packed)
		reads(t, planOf(p).file(), e)
		reads(t, planOf(parts(sample())[0], p).file(), e)
		if e == api.OK {
			e = api.ErrSum
		}
		p.top.Crc ^= 1 << 31
		p.agree()
		reads(t, planOf(p).file(), e)
	}
	for n := range 400 {
		data := strings.Repeat("abc", 140)[:n]
		e := api.ErrForm
		if n == 300 {
			e = api.OK
		}
		try(good, data, e)
		for _, more := range []string{"x", "\x00", good} {
			try(good+more, data, api.ErrForm)
		}
	}
	for n := range good {
		try(good[:n], strings.Repeat("abc", 100), api.ErrCut)
	}
	try("", "", api.ErrCut)
	try("\x03\x00", "", api.OK)
	try("\x03\x00\x00", "", api.ErrForm)
	try("\x03", "", api.ErrCut)
	try("\x07", "", api.ErrForm)
	try("\x07", "x", api.ErrForm)
	try("\x01\x01\x00\xfe\xffa", "a", api.OK)
	try("\x01\x01\x00\xfe\xff", "a", api.ErrCut)
	try("\x01\x01\x00\xff\xffa", "a", api.ErrForm)
	// A match that leads before the first byte.
	try("\x03\x02\x00", "aaa", api.ErrForm)
	// Data that are more than the header says are an error of the form, not of the limit, even if they are cut later.
	try("\x00\x02\x00\xfd\xffab", "a", api.ErrForm)
	try("\x00\x02\x00\xfd\xffab", "ab", api.ErrCut)
	try("\x00\x02\x00\xfd\xffab"+"\x03\x00", "ab", api.OK)
}

// TestP21_1Sum: each bit of the Data, and of the checksum, counts.
func TestP21_1Sum(t *testing.T) {
	x := parts(sample())[0]
	for i := range 5 {
		for bit := range 8 {
			y := x
			y.packed = change(x.packed, i, octet(int(x.packed[i])^1<<bit))
			reads(t, planOf(y).file(), api.ErrSum)
		}
	}
	for _, x := range parts(sample()) {
		for bit := range 32 {
			y := x
			y.top.Crc ^= 1 << bit
			y.agree()
			reads(t, planOf(y).file(), api.ErrSum)
			reads(t, planOf(x, y).file(), api.ErrSum)
		}
	}
}

// TestP21_1Order: of some faults, the one that the promise names first is returned.
func TestP21_1Order(t *testing.T) {
	for mask := range 1 << 10 {
		e := api.OK
		fault := func(i int, f api.Errno) bool {
			if mask>>i&1 == 1 && e == api.OK {
				e = f
			}
			return mask>>i&1 == 1
		}
		limit := enough
		if fault(0, api.ErrArg) {
			limit = -1
		}
		x := parts(sample())[0]
		wrongEnd := fault(1, api.ErrForm)
		longName := fault(2, api.ErrCut)
		badCentral := fault(3, api.ErrForm)
		farAway := fault(4, api.ErrCut)
		badLocal := fault(5, api.ErrForm)
		if fault(6, api.ErrLimit) {
			limit = min(limit, 4)
		}
		if fault(7, api.ErrForm) {
			x.top.Size++
		}
		if fault(8, api.ErrSum) {
			x.top.Crc++
		}
		left := fault(9, api.ErrForm)
		x.agree()
		if longName {
			x.row.Name = 600
		}
		if badCentral {
			x.row.Outer = 1
		}
		if farAway {
			x.row.At = 1000
		}
		if badLocal {
			x.top.Flags = 1
		}
		rest := x.central()
		if left {
			rest += "left"
		}
		p := ended(x.local(), rest, 1)
		if wrongEnd {
			p.tail.At++
		}
		if _, f := Read(p.file(), limit); f != e {
			t.Errorf("%b: %d, not %d", mask, f, e)
		}
		sameRead(t, p.file(), limit)
	}
}

// TestP21_1OrderOfOverlap: beside an overlap, where the second member is in the Data of the first one.
func TestP21_1OrderOfOverlap(t *testing.T) {
	for mask := range 1 << 5 {
		x := parts(sample())[0]
		e := api.ErrOverlap
		limit := 37 + 5
		if mask&1 != 0 {
			limit--
		}
		if mask&2 != 0 {
			x.top.Size--
		}
		if mask&4 != 0 {
			x.top.Crc++
		}
		x.agree()
		x.row.At = 35
		if mask&8 != 0 {
			x.row.Time++
			e = api.ErrForm // the local header is another one
		}
		rest := x.central()
		if mask&16 != 0 {
			rest += "left"
		}
		data := x.local()[:37] // its packed bytes go on behind those of the first member
		y := partOf(api.Member{Name: "outer", Data: data}, data)
		s := ended(y.local()+x.local()[37:], y.central()+rest, 2).file()
		if l, f := Read(s, limit); l != nil || f != e {
			t.Errorf("%b: %v, %d, not %d", mask, l, f, e)
		}
		sameRead(t, s, limit)
	}
	// Member by member: what is wrong with the first one counts.
	for i, x := range parts(sample())[:2] {
		y := parts(sample())[0]
		x.top.Crc++
		x.agree()
		y.top.Flags++
		reads(t, planOf(x, y).file(), api.ErrSum)
		reads(t, planOf(y, x).file(), api.ErrForm)
		y.agree()
		reads(t, planOf(x, y).file(), api.ErrSum)
		reads(t, planOf(y, x).file(), api.ErrForm)
		if i == 0 {
			p := planOf(x)
			p.tail = tail{p.Mark, 0, 0, 9, 9, p.Width, p.At, 0}
			reads(t, p.file(), api.ErrSum)
		}
	}
}

// TestP21_1EveryByte of an archive with each value, and of another one with some.
func TestP21_1EveryByte(t *testing.T) {
	s := planOf(parts(sample())...).file()
	for i := range len(s) {
		for c := range 256 {
			sameRead(t, change(s, i, octet(c)), enough)
		}
	}
	random := rand.New(rand.NewSource(1))
	s = randomPlan(random, []part{randomPart(random), randomPart(random), randomPart(random)}).file()
	for i := range len(s) {
		for bit := range 8 {
			sameRead(t, change(s, i, octet(int(s[i])^1<<bit)), enough)
		}
		sameRead(t, change(s, i, octet(int(s[i])+1)), enough)
		sameRead(t, change(s, i, octet(int(s[i])-1)), enough)
	}
}

// spoil changes some numbers of a part.
func (p *part) spoil(random *rand.Rand) {
	switch random.Intn(12) {
	case 0:
		p.top.Size += uint32(random.Intn(3)) - 1
		p.agree()
	case 1:
		p.top.Crc ^= 1 << random.Intn(32)
		p.agree()
	case 2:
		p.packed += noise(random, 1)
		p.top.Packed = uint32(len(p.packed))
		p.agree()
	case 3:
		p.packed = p.packed[:random.Intn(len(p.packed)+1)]
		p.top.Packed = uint32(len(p.packed))
		p.agree()
	case 4:
		p.row.At += uint32(random.Intn(100))
	case 5:
		p.row.Name += uint16(random.Intn(3))
	case 6:
		p.top.Method ^= 8
		p.agree()
	case 7:
		p.top.Flags = uint16(random.Intn(2))
	case 8:
		p.row.Packed += uint32(random.Intn(100))
	case 9:
		if p.packed != "" {
			p.packed = change(p.packed, random.Intn(len(p.packed)), noise(random, 1))
		}
	case 10:
		p.top.Size ^= 1 << random.Intn(32)
		p.agree()
	default:
		p.top.Time += 1 << random.Intn(32)
		p.agree()
	}
}

// TestP21_1Plans: archives whose members lie in any order, as they are, and with some numbers changed.
func TestP21_1Plans(t *testing.T) {
	random := rand.New(rand.NewSource(2))
	seen := map[api.Errno]int{}
	for range 20000 {
		var l []part
		for range random.Intn(5) {
			l = append(l, randomPart(random))
		}
		p := randomPlan(random, slices.Clone(l))
		reads(t, p.file(), api.OK)
		if len(l) == 0 {
			continue
		}
		for range 1 + random.Intn(2) {
			l[random.Intn(len(l))].spoil(random)
		}
		p = randomPlan(random, l)
		// One member twice, so that its bytes overlap those of the first.
		if random.Intn(3) == 0 {
			p = ended(p.body, p.rest+l[random.Intn(len(l))].central(), len(l)+1)
		}
		seen[sameRead(t, p.file(), []int{enough, random.Intn(400)}[random.Intn(2)])]++
	}
	for _, e := range []api.Errno{api.OK, api.ErrCut, api.ErrForm, api.ErrSum, api.ErrOverlap, api.ErrLimit} {
		if seen[e] < 500 {
			t.Errorf("error %d: %d times", e, seen[e])
		}
	}
}

// TestR1Noise: whatever there is, the model says the same.
func TestR1Noise(t *testing.T) {
	random := rand.New(rand.NewSource(3))
	for range 20000 {
		sameRead(t, noise(random, random.Intn(100)), enough)
		sameRead(t, ended(noise(random, random.Intn(50)), noise(random, random.Intn(100)), random.Intn(3)).file(), enough)
	}
}

// files are members that no other program takes for directories, whose Names end with a slash.
func files(random *rand.Rand) []api.Member {
	l := randomMembers(random)
	for i := range l {
		l[i].Name += "."
	}
	return l
}

// TestP21_1OfAnotherWriter: what archive/zip writes, without what chapter 21 leaves out.
func TestP21_1OfAnotherWriter(t *testing.T) {
	random := rand.New(rand.NewSource(4))
	for range 1000 {
		l := files(random)
		var b bytes.Buffer
		w := other.NewWriter(&b)
		for _, p := range parts(l) {
			f, err := w.CreateRaw(&other.FileHeader{CreatorVersion: 20, ReaderVersion: 20, Name: p.name, Method: p.top.Method, ModifiedTime: uint16(p.top.Time), ModifiedDate: uint16(p.top.Time >> 16), CRC32: p.top.Crc, CompressedSize64: uint64(p.top.Packed), UncompressedSize64: uint64(p.top.Size)})
			if err != nil {
				t.Fatal(err)
			}
			io.WriteString(f, p.packed)
		}
		w.Close()
		if m, e := Read(b.String(), enough); !slices.Equal(m, l) || e != api.OK {
			t.Errorf("%v: %v, %d", l, m, e)
		}
		if s, e := Write(l); s != b.String() || e != api.OK {
			t.Errorf("%v: %q, %d, not %q", l, s, e, b.String())
		}
	}
}
