package sfnt

import (
	"math/rand"
	"slices"
	"strings"
	"syscall"
	"testing"
	"unsafe"

	"mortise/api"
	"mortise/win"
)

// sample is the tables of a font that has all of padding, an empty table, and one without padding.
func sample() []api.Table {
	return []api.Table{{Tag: "cmap", Data: "abcde"}, {Tag: "glyf"}, {Tag: "head", Data: "wxyz"}, {Tag: "loca", Data: "\xff\xfe\xfd\xfc\xfb\xfa\x00"}}
}

// Where the parts of the sample's font are.
const (
	rowsAt     = 12
	dataAt     = 12 + 4*16
	sampleSize = dataAt + 8 + 4 + 8
)

func sampleFont(t *testing.T) string {
	t.Helper()
	s, e := sameWrite(t, plain, sample())
	if e != api.OK || len(s) != sampleSize {
		t.Fatalf("%d bytes, %d", len(s), e)
	}
	return s
}

func TestP22_1Fields(t *testing.T) {
	// All numbers, the highest byte first, Data in another order than that of the tables, with gaps.
	long := strings.Repeat("\x80\x00\x00\x01", 0x10203/4) + "\x01\x02\x03"
	s := "OTTO\x00\x03\x00\x20\x00\x01\x00\x10" +
		"  ~ \xe1\xe2\xe3\x00" + "\x00\x01\x02\x44" + "\x00\x00\x00\x03" +
		"  ~!\x00\x00\x00\x00" + "\x00\x00\x00\x00" + "\x00\x00\x00\x00" +
		"~~~~\x01\x02\x43\x80" + "\x00\x00\x00\x40" + "\x00\x01\x02\x03" +
		"gaps" + long + "\x00" + "\xe1\xe2\xe3\x00" + "more"
	want := []api.Table{{Tag: "  ~ ", Data: "\xe1\xe2\xe3"}, {Tag: "  ~!"}, {Tag: "~~~~", Data: long}}
	if kind, l, e := Read(s); kind != 0x4f54544f || !slices.Equal(l, want) || e != api.OK {
		t.Errorf("%x, %.300q, %d", kind, l, e)
	}
	sameRead(t, s)
}

// TestP22_1Cut: at each place.
func TestP22_1Cut(t *testing.T) {
	s := sampleFont(t)
	for n := range len(s) {
		reads(t, s[:n], api.ErrCut)
	}
	reads(t, s, api.OK)
	reads(t, s+"more", api.OK)
	for n := range 12 {
		reads(t, strings.Repeat("x", n), api.ErrCut)
	}
	reads(t, strings.Repeat("x", 12), api.ErrForm)
	// What is wrong with the first bytes is known before rows are missed, and this before a row is looked at.
	reads(t, change(s, 0, "\x01")[:20], api.ErrForm)
	reads(t, change(s, 12, "\x01")[:dataAt-1], api.ErrCut)
	reads(t, change(s, 12, "\x01")[:dataAt], api.ErrForm)
}

// TestP22_1Start: each byte of the first twelve with each value.
func TestP22_1Start(t *testing.T) {
	s := sampleFont(t)
	for _, s := range []string{s, "OTTO" + s[4:]} {
		for i := range 12 {
			for c := range 256 {
				e := api.ErrForm
				if byte(c) == s[i] {
					e = api.OK
				}
				reads(t, change(s, i, octet(c)), e)
			}
		}
	}
	for _, kind := range []string{"true", "typ1", "ttcf", "otto", "OTTP", zeros(4), "\x00\x00\x01\x00", "\x00\x02\x00\x00", "OTT\x00", "\xff\xff\xff\xff"} {
		reads(t, kind+s[4:], api.ErrForm)
	}
}

// TestP22_1Counts: each number of tables, and the numbers that follow from it.
func TestP22_1Counts(t *testing.T) {
	all := make([]row, 1100)
	for i := range all {
		all[i] = row{"a" + octet(32+i/95/95) + octet(32+i/95%95) + octet(32+i%95), 0, 0, 0}
	}
	for n := 1; n <= 1100; n++ {
		if n > 40 && n < 990 && n&(n-1) != 0 && n&(n+1) != 0 {
			continue
		}
		e := api.OK
		if n > 1000 {
			e = api.ErrForm
		}
		s := font("", all[:n]...)
		reads(t, s, e)
		for at := 6; at < 12; at += 2 {
			for _, d := range []int{-16, -1, 1, 2, 16, 1 << 15} {
				reads(t, change(s, at, be16(int16At(s, at)+d)), api.ErrForm)
			}
		}
	}
	for _, n := range []int{1024, 4096, 32768, 65535} {
		reads(t, head(plain, n)+rows(all...), api.ErrForm)
		reads(t, head(plain, n)+zeros(16*n), api.ErrForm)
	}
	// No tables, with whatever might be their numbers.
	for _, rest := range []string{zeros(6), "\x00\x10\x00\x00\x00\x00", "\x00\x10\x00\x00\xff\xf0", "\x00\x00\xff\xff\x00\x00", "\x00\x08\xff\xff\x00\x08"} {
		reads(t, be32(plain)+be16(0)+rest+zeros(100), api.ErrForm)
	}
	// The numbers of the next power of 2, or of the one below.
	reads(t, be32(plain)+be16(4)+be16(32)+be16(1)+be16(32)+rows(all[:4]...), api.ErrForm)
	reads(t, be32(plain)+be16(3)+be16(64)+be16(2)+be16(-16)+rows(all[:3]...), api.ErrForm)
}

// TestP22_1Tags: each byte at each place, and their order.
func TestP22_1Tags(t *testing.T) {
	s := sampleFont(t)
	for i := range 4 {
		for c := range 256 {
			tag := change("mmmm", i, octet(c))
			e := api.ErrForm
			if c >= 32 && c <= 126 {
				e = api.OK
			}
			reads(t, font("", row{tag, 0, 0, 0}), e)
			// That is known before anything else of a row.
			if e != api.OK {
				reads(t, font("", row{tag, 1, 1 << 20, 4}), e)
			}
			// Behind another one, and ahead of it.
			before, after := api.ErrForm, api.ErrForm
			if e == api.OK && tag > "mmmm" {
				after = api.OK
			}
			if e == api.OK && tag < "mmmm" {
				before = api.OK
			}
			reads(t, font("", row{"mmmm", 0, 0, 0}, row{tag, 0, 0, 0}), after)
			reads(t, font("", row{tag, 0, 0, 0}, row{"mmmm", 0, 0, 0}), before)
		}
	}
	for i := 1; i < 4; i++ {
		at := rowsAt + 16*i
		reads(t, change(s, at, s[at-16:at-12]), api.ErrForm)
		reads(t, change(s, at, "    "), api.ErrForm)
	}
	// Each is held against the one ahead of it, not against the first one.
	reads(t, font("", row{"aaaa", 0, 0, 0}, row{"cccc", 0, 0, 0}, row{"bbbb", 0, 0, 0}), api.ErrForm)
}

// TestP22_1Offsets: where Data begin.
func TestP22_1Offsets(t *testing.T) {
	for _, n := range []int{0, 1, 2, 3, 4, 5, 8} {
		for size := 28; size < 48; size++ {
			for at := range 60 {
				s := font(zeros(size-28), row{"abcd", 0, at, n})
				e := api.OK
				switch up := (n + 3) / 4 * 4; {
				case at%4 != 0:
					e = api.ErrForm
				case at > size || at+up > size:
					e = api.ErrCut
				case at < 28 && n > 0:
					e = api.ErrOverlap
					if s[at+n:at+up] != zeros(up-n) {
						e = api.ErrForm
					}
				}
				reads(t, s, e)
			}
			for _, at := range []int{1 << 16, 1 << 24, 1<<31 - 4, 1 << 31, 1<<32 - 8, 1<<32 - 4} {
				reads(t, font(zeros(size-28), row{"abcd", 0, at, n}), api.ErrCut)
				reads(t, font(zeros(size-28), row{"abcd", 0, at + 1, n}), api.ErrForm)
				reads(t, font(zeros(size-28), row{"abcd", 0, at + 2, n}), api.ErrForm)
				reads(t, font(zeros(size-28), row{"abcd", 0, at + 3, n}), api.ErrForm)
			}
		}
	}
}

// TestP22_1Lengths: how many bytes Data have.
func TestP22_1Lengths(t *testing.T) {
	for n := range 50 {
		e := api.OK
		if n > 12 {
			e = api.ErrCut
		}
		reads(t, font(zeros(12), row{"abcd", 0, 28, n}), e)
		if n > 8 {
			e = api.ErrCut // though all bytes but those of the padding would be there
		}
		reads(t, font(zeros(11), row{"abcd", 0, 28, n}), e)
	}
	for _, n := range []int{1<<24 + 1, 1<<24 + 4, 1 << 25, 1<<31 - 1, 1 << 31, 1<<32 - 3, 1<<32 - 1} {
		reads(t, font(zeros(12), row{"abcd", 0, 28, n}), api.ErrForm)
		reads(t, font(zeros(12), row{"abcd", 0, 1<<32 - 4, n}), api.ErrForm)
	}
	reads(t, font(zeros(12), row{"abcd", 0, 28, 1 << 24}), api.ErrCut)
	reads(t, font(zeros(12), row{"abcd", 0, 28, 1<<24 - 1}), api.ErrCut)
	long := zeros(1 << 24)
	for _, n := range []int{1<<24 - 1, 1 << 24} {
		if kind, l, e := Read(font(long, row{"abcd", 0, 28, n})); kind != plain || len(l) != 1 || l[0].Tag != "abcd" || l[0].Data != long[:n] || e != api.OK {
			t.Errorf("%d bytes: %x, %d", n, kind, e)
		}
	}
	if _, l, e := Read(font(long+zeros(4), row{"abcd", 0, 28, 1<<24 + 1})); l != nil || e != api.ErrForm {
		t.Errorf("%d", e)
	}
}

// TestP22_1Padding: each byte of it is 0.
func TestP22_1Padding(t *testing.T) {
	for n := 1; n <= 8; n++ {
		data := strings.Repeat("z", n)
		up := (n + 3) / 4 * 4
		for i := range up + 4 {
			for _, c := range []int{1, 2, 128, 255} {
				rest := round(data) + "more"
				rest = change(rest, i, octet(c))
				e := api.ErrSum
				if i >= n {
					e = api.ErrForm
				}
				if i >= up {
					e = api.OK
				}
				reads(t, font(rest, row{"abcd", wordsOf(data), 28, n}), e)
				// Even if it is part of the checksum.
				if i >= n && i < up {
					reads(t, font(rest, row{"abcd", wordsOf(rest[:up]), 28, n}), e)
				}
			}
		}
	}
}

// TestP22_1Overlap: two tables at all places.
func TestP22_1Overlap(t *testing.T) {
	const size = 44 + 24
	for a := 0; a <= size; a += 4 {
		for b := 0; b <= size; b += 4 {
			for _, n := range []int{0, 1, 4, 5, 12} {
				for _, m := range []int{0, 1, 4, 8} {
					// Whatever the checksums are, overlaps are known first.
					s := font(zeros(24), row{"aaaa", 0, a, n}, row{"bbbb", 0, b, m})
					e := sameRead(t, s)
					up, vp := (n+3)/4*4, (m+3)/4*4
					if a+up > size || b+vp > size || a < 44 && n > 0 || b < 44 && m > 0 {
						continue
					}
					want := api.OK
					if n > 0 && m > 0 && a < b+vp && b < a+up {
						want = api.ErrOverlap
					}
					if e != want {
						t.Errorf("%d bytes at %d, %d bytes at %d: %d, not %d", n, a, m, b, e, want)
					}
				}
			}
		}
	}
	// Bytes of a padding are in use, too, be they shared by the padding of another table.
	reads(t, font("a"+zeros(3), row{"aaaa", 'a' << 24, 60, 1}, row{"bbbb", 'a' << 24, 60, 1}, row{"cccc", 0, 0, 0}), api.ErrOverlap)
	// With the first bytes, and with the rows of tables that are still to come.
	for at := 0; at < 60; at += 4 {
		reads(t, font(zeros(20), row{"aaaa", 0, at, 4}, row{"bbbb", 0, 0, 0}, row{"cccc", 0, 0, 0}), api.ErrOverlap)
	}
	reads(t, font(zeros(20), row{"aaaa", 0, 60, 4}, row{"bbbb", 0, 0, 0}, row{"cccc", 0, 0, 0}), api.OK)
	// An empty one may be anywhere.
	reads(t, font(zeros(8), row{"aaaa", 0, 44, 8}, row{"bbbb", 0, 48, 0}), api.OK)
	reads(t, font(zeros(8), row{"aaaa", 0, 48, 0}, row{"bbbb", 0, 44, 8}), api.OK)
}

// TestP22_1Sum: each bit counts.
func TestP22_1Sum(t *testing.T) {
	s := sampleFont(t)
	for i := range 4 {
		at := rowsAt + 16*i + 4
		for bit := range 32 {
			reads(t, change(s, at, be32(int32At(s, at)^1<<bit)), api.ErrSum)
		}
	}
	for i := dataAt; i < sampleSize; i++ {
		if i >= dataAt+5 && i < dataAt+8 || i == sampleSize-1 {
			continue // padding
		}
		for bit := range 8 {
			reads(t, change(s, i, octet(int(s[i])^1<<bit)), api.ErrSum)
		}
	}
	// The sum wraps around.
	data := strings.Repeat("\xff\xff\xff\xff", 5)
	reads(t, font(data, row{"abcd", 1<<32 - 5, 28, 20}), api.OK)
	reads(t, font(data, row{"abcd", 1<<32 - 1, 28, 20}), api.ErrSum)
}

// TestP22_1Order: of some faults, the one that the promise names first is returned.
func TestP22_1Order(t *testing.T) {
	for mask := range 1 << 9 {
		s := ""
		x, y := row{"cccc", wordsOf("abcde"), 44, 5}, row{"dddd", wordsOf("wxyz"), 52, 4}
		rest := "abcde\x00\x00\x00wxyz"
		e := api.OK
		fault := func(i int, f api.Errno) bool {
			if mask>>i&1 == 1 && e == api.OK {
				e = f
			}
			return mask>>i&1 == 1
		}
		if fault(0, api.ErrForm) {
			x.tag = "ccc\x1f"
		}
		if fault(1, api.ErrForm) {
			x.n = 1<<24 + 5
		}
		if fault(2, api.ErrCut) {
			x.at = 1 << 20
		}
		if fault(3, api.ErrForm) {
			rest = change(rest, 5, "\x01")
		}
		if fault(4, api.ErrSum) {
			x.sum++
		}
		if fault(5, api.ErrForm) {
			y.tag = "bbbb"
		}
		if fault(6, api.ErrForm) {
			y.at += 2
		}
		if fault(7, api.ErrOverlap) {
			y.at -= 4
			y.n = 8
			y.sum = 0
		}
		if fault(8, api.ErrSum) {
			y.sum++
		}
		s = font(rest, x, y)
		reads(t, s, e)
		reads(t, "X"+s[1:], api.ErrForm)
		reads(t, s[:43], api.ErrCut)
	}
	// A padding that is not 0 is known before an overlap, and this before a wrong checksum.
	reads(t, font("abcd", row{"aaaa", wordsOf("abcd"), 44, 4}, row{"bbbb", 0, 44, 3}), api.ErrForm)
	reads(t, font("abcd", row{"aaaa", wordsOf("abcd"), 44, 4}, row{"bbbb", 0, 44, 4}), api.ErrOverlap)
	reads(t, font("abcd", row{"aaaa", 0, 0, 4}, row{"bbbb", 0, 0, 4}), api.ErrOverlap)
}

// TestP22_1All: all Data together. The strings here take memory only where they are not 0.
func TestP22_1All(t *testing.T) {
	const (
		most = 1 << 24
		n    = 64
	)
	lead := 12 + 16*n
	b, err := syscall.Mmap(-1, 0, lead+n*most, syscall.PROT_READ|syscall.PROT_WRITE, syscall.MAP_ANON|syscall.MAP_PRIVATE|syscall.MAP_NORESERVE)
	if err != nil {
		t.Skip(err)
	}
	t.Cleanup(func() { syscall.Munmap(b) })
	s := unsafe.String(&b[0], len(b))
	for _, c := range []struct {
		last int
		sum  int
		e    api.Errno
	}{{most, 0, api.ErrForm}, {most - 3, 0, api.ErrForm}, {most, 1, api.ErrSum}, {most - 4, 0, api.OK}} {
		all := make([]row, n)
		for i := range all {
			all[i] = row{"tab" + octet(33+i), 0, lead + i*most, most}
		}
		all[n-1].n, all[n-1].sum = c.last, c.sum
		copy(b, font("", all...))
		if c.e == api.OK {
			// The tables as they are ahead of being copied, as that would take as much memory again.
			if l, e := tables(win.Of(s), n); len(l) != n || e != api.OK || len(l[n-1].Data) != c.last {
				t.Errorf("%d tables, %d", len(l), e)
			}
			continue
		}
		if kind, l, e := Read(s); kind != 0 || l != nil || e != c.e {
			t.Errorf("%d bytes of the last one: %d, not %d", c.last, e, c.e)
		}
	}
}

// TestP22_1EveryByte of two fonts, with each value.
func TestP22_1EveryByte(t *testing.T) {
	rest, all := randomPlan(rand.New(rand.NewSource(1)))
	for _, s := range []string{sampleFont(t), font(rest, all...)} {
		for i := range len(s) {
			for c := range 256 {
				sameRead(t, change(s, i, octet(c)))
			}
		}
	}
}

// TestP22_1Plans: fonts whose Data lie in any order, as they are, and with some numbers changed.
func TestP22_1Plans(t *testing.T) {
	random := rand.New(rand.NewSource(2))
	seen := map[api.Errno]int{}
	for range 30000 {
		rest, all := randomPlan(random)
		reads(t, font(rest, all...), api.OK)
		for range 1 + random.Intn(2) {
			x := &all[random.Intn(len(all))]
			switch random.Intn(6) {
			case 0:
				x.tag = change(x.tag, random.Intn(4), octet([]int{31, 32, 126, 127, random.Intn(256)}[random.Intn(5)]))
			case 1:
				x.sum = (x.sum + random.Intn(2)) % (1 << 32)
			case 2:
				x.at += random.Intn(9) - 4
			case 3:
				x.at = all[random.Intn(len(all))].at
			case 4:
				x.n += random.Intn(9)
			default:
				x.n = max(0, x.n-random.Intn(5))
			}
			// Checksums of what is there now, so that they are not what is always wrong.
			if s := font(rest, all...); random.Intn(2) == 0 && x.at >= 0 && x.at+x.n <= len(s) {
				x.sum = wordsOf(s[x.at : x.at+x.n])
			}
		}
		seen[sameRead(t, font(rest, all...))]++
	}
	for _, e := range []api.Errno{api.OK, api.ErrCut, api.ErrForm, api.ErrSum, api.ErrOverlap} {
		if seen[e] < 500 {
			t.Errorf("error %d: %d times", e, seen[e])
		}
	}
}

// TestR1Noise: whatever there is, the model says the same.
func TestR1Noise(t *testing.T) {
	random := rand.New(rand.NewSource(3))
	for range 20000 {
		n := random.Intn(4)
		sameRead(t, noise(random, random.Intn(100)))
		sameRead(t, head(otto, n+1)+noise(random, random.Intn(100)))
	}
}
