package tar

import (
	"bytes"
	"io"
	"math"
	"math/rand"
	"slices"
	"strings"
	"syscall"
	"testing"
	"time"
	"unsafe"

	other "archive/tar"

	"mortise/api"
)

func reads(t *testing.T, s string, l []api.Entry, e api.Errno) {
	t.Helper()
	if m, f := Read(s); !slices.Equal(m, l) || f != e || e != api.OK && m != nil {
		t.Errorf("%.600q: %.200v, %d, not %.200v, %d", s, m, f, l, e)
	}
	sameRead(t, s)
}

func fails(t *testing.T, s string, e api.Errno) {
	t.Helper()
	reads(t, s, nil, e)
}

// writes holds Write of one entry against an error.
func writes(t *testing.T, x api.Entry, e api.Errno) {
	t.Helper()
	if _, f := sameWrite(t, []api.Entry{x}); f != e {
		t.Errorf("%.200v: %d, not %d", x, f, e)
	}
	good := api.Entry{Name: "good", Type: '0', Data: "data"}
	if s, f := Write([]api.Entry{good, x, good}); f != e || e != api.OK && s != "" {
		t.Errorf("%.200v: %d, not %d", x, f, e)
	}
}

// change is s with other bytes from an offset on.
func change(s string, at int, with string) string { return s[:at] + with + s[at+len(with):] }

// block is the header of a file `name` with 5 bytes of Data.
func block() string {
	return modelBlock(api.Entry{Name: "name", Mode: 0o644, Type: '0'}, "", "name", 5)
}

const end = 1024

// archive is one of a single header with Data.
func archive(header string, data string) string {
	return header + data + pad(len(data)) + zeros(end)
}

func TestP18_2Fields(t *testing.T) {
	x := api.Entry{Name: "dir/name", Mode: 0o1234567, Uid: 1, Gid: 0o7654321, Mtime: 0o12345670123, Type: '0', Data: "data"}
	s, e := sameWrite(t, []api.Entry{x})
	if e != api.OK || len(s) != 512+512+1024 {
		t.Fatalf("%d, %d bytes", e, len(s))
	}
	for _, c := range []struct {
		at   int
		text string
	}{
		{0, fill("dir/name", 100)}, {100, "1234567\x00"}, {108, "0000001\x00"}, {116, "7654321\x00"}, {124, "00000000004\x00"}, {136, "12345670123\x00"},
		{156, "0"}, {157, zeros(100)}, {257, "ustar\x0000"}, {265, zeros(64)}, {329, "0000000\x00"}, {337, "0000000\x00"}, {345, zeros(155)}, {500, zeros(12)},
		{512, fill("data", 512)}, {1024, zeros(1024)},
	} {
		if got := s[c.at:][:len(c.text)]; got != c.text {
			t.Errorf("at %d: %q, not %q", c.at, got, c.text)
		}
	}
	// The checksum counts its own bytes as blanks.
	n := 8 * 32
	for i, c := range []byte(s[:512]) {
		if i < 148 || i > 155 {
			n += int(c)
		}
	}
	digits := ""
	for range 6 {
		digits = string(octals[n%8]) + digits
		n /= 8
	}
	if s[148:156] != digits+"\x00 " {
		t.Errorf("the checksum is %q, not %q", s[148:156], digits)
	}
}

func TestP18_2Entries(t *testing.T) {
	random := rand.New(rand.NewSource(1))
	for range 2000 {
		var l []api.Entry
		for range random.Intn(4) {
			l = append(l, randomEntry(random))
		}
		if _, e := sameWrite(t, l); e != api.OK {
			t.Errorf("%v: %d", l, e)
		}
	}
}

// TestP18_2Data: each is padded, but not if its length is a multiple of 512.
func TestP18_2Data(t *testing.T) {
	for n := range 1600 {
		s, e := sameWrite(t, []api.Entry{{Name: "n", Type: '0', Data: strings.Repeat("z", n)}})
		if e != api.OK || len(s) != 512+(n+511)/512*512+1024 {
			t.Errorf("%d bytes: %d, %d", n, len(s), e)
		}
	}
}

func TestP18_2Numbers(t *testing.T) {
	for _, c := range []struct {
		n     int
		short api.Errno
		long  api.Errno
	}{
		{0, api.OK, api.OK}, {1, api.OK, api.OK}, {1<<21 - 1, api.OK, api.OK}, {1 << 21, api.ErrArg, api.OK}, {1<<33 - 1, api.ErrArg, api.OK}, {1 << 33, api.ErrArg, api.ErrArg},
		{-1, api.ErrArg, api.ErrArg}, {math.MinInt, api.ErrArg, api.ErrArg}, {math.MaxInt, api.ErrArg, api.ErrArg}, {1 << 32, api.ErrArg, api.OK},
	} {
		writes(t, api.Entry{Name: "n", Type: '0', Mode: c.n}, c.short)
		writes(t, api.Entry{Name: "n", Type: '0', Uid: c.n}, c.short)
		writes(t, api.Entry{Name: "n", Type: '0', Gid: c.n}, c.short)
		writes(t, api.Entry{Name: "n", Type: '0', Mtime: c.n}, c.long)
	}
}

func TestP18_2TypesAndLinks(t *testing.T) {
	for i := range 256 {
		c := byte(i)
		ok := func(good bool) api.Errno {
			if good {
				return api.OK
			}
			return api.ErrArg
		}
		writes(t, api.Entry{Name: "n", Type: c}, ok(c == '0' || c == '5'))
		writes(t, api.Entry{Name: "n", Type: c, Link: "l"}, ok(c == '2'))
		writes(t, api.Entry{Name: "n", Type: c, Data: "d"}, ok(c == '0'))
		writes(t, api.Entry{Name: "n", Type: c, Link: "l", Data: "d"}, api.ErrArg)
		writes(t, api.Entry{Name: "n", Type: '2', Link: string([]byte{c})}, ok(c != 0))
		writes(t, api.Entry{Name: string([]byte{c}), Type: '0'}, ok(c != 0))
	}
	for n := range 300 {
		e := api.OK
		if n < 1 || n > 100 {
			e = api.ErrArg
		}
		writes(t, api.Entry{Name: "n", Type: '2', Link: strings.Repeat("l", n)}, e)
		writes(t, api.Entry{Name: strings.Repeat("n", n), Type: '5'}, e)
	}
	writes(t, api.Entry{Name: "n", Type: '2', Link: "a\x00"}, api.ErrArg)
	writes(t, api.Entry{Name: "n", Type: '2', Link: "\x00a"}, api.ErrArg)
	writes(t, api.Entry{Name: "n", Type: '2', Link: strings.Repeat("l", 50) + "/" + strings.Repeat("l", 50)}, api.ErrArg)
	writes(t, api.Entry{Name: "n\x00", Type: '0'}, api.ErrArg)
	writes(t, api.Entry{Name: strings.Repeat("d", 100) + "/\x00n", Type: '0'}, api.ErrArg)
	writes(t, api.Entry{Name: strings.Repeat("d\x00", 50) + "/n", Type: '0'}, api.ErrArg)
}

// TestP18_2Names: of more than 100 bytes, with slashes at up to two places.
func TestP18_2Names(t *testing.T) {
	slash := func(s string, at int) string { return change(s, at, "/") }
	for _, n := range []int{1, 2, 99, 100, 101, 102, 103, 155, 156, 157, 158, 200, 254, 255, 256, 257, 258, 300} {
		s := strings.Repeat("n", n)
		e := api.OK
		if n > 100 {
			e = api.ErrArg
		}
		writes(t, api.Entry{Name: s, Type: '0'}, e)
		for i := range n {
			sameWrite(t, []api.Entry{{Name: slash(s, i), Type: '0'}})
			for k := 0; k < i; k += 1 + n/40 {
				sameWrite(t, []api.Entry{{Name: slash(slash(s, i), k), Type: '5'}})
			}
		}
		sameWrite(t, []api.Entry{{Name: strings.Repeat("/", n), Type: '0'}})
	}
	name := func(before int, after int) string {
		return strings.Repeat("d", before) + "/" + strings.Repeat("n", after)
	}
	for _, c := range []struct {
		before int
		after  int
		e      api.Errno
	}{{1, 100, api.OK}, {155, 1, api.OK}, {155, 100, api.OK}, {156, 1, api.ErrArg}, {1, 101, api.ErrArg}, {156, 100, api.ErrArg}, {0, 100, api.ErrArg}, {100, 0, api.ErrArg}, {0, 99, api.OK}, {99, 0, api.OK}, {155, 0, api.ErrArg}} {
		writes(t, api.Entry{Name: name(c.before, c.after), Type: '0'}, c.e)
	}
	// A Name of 100 bytes isn't split, and a longer one at the first slash at which it can be.
	d, n := strings.Repeat("d", 50), strings.Repeat("n", 100)
	for _, c := range []struct{ whole, prefix, name string }{
		{"a/" + n[:98], "", "a/" + n[:98]},
		{"a/" + n[:99], "a", n[:99]},
		{"a/b/" + n[:97], "a", "b/" + n[:97]},
		{"a/b/" + n[:98], "a", "b/" + n[:98]},
		{"a/b/" + n[:99], "a/b", n[:99]}, // behind the first slash there are 101 bytes
		{"/" + d + "/" + n[:60], "/" + d, n[:60]},
		{"//" + n, "/", n},
		{"//" + n[:99], "/", n[:99]},
		{d + d + "//n", d + d, "/n"},
		{d + d + "/d//", d + d, "d//"},
	} {
		s, e := Write([]api.Entry{{Name: c.whole, Type: '0'}})
		if e != api.OK || s[:100] != fill(c.name, 100) || s[345:500] != fill(c.prefix, 155) {
			t.Errorf("%q: %q and %q, %d", c.whole, s[345:500], s[:100], e)
		}
	}
}

// long is a string of n bytes 0 that take memory only where they are looked at.
func long(t *testing.T, n int) string {
	t.Helper()
	b, err := syscall.Mmap(-1, 0, n, syscall.PROT_READ, syscall.MAP_ANON|syscall.MAP_PRIVATE)
	if err != nil {
		t.Skip(err)
	}
	t.Cleanup(func() { syscall.Munmap(b) })
	return unsafe.String(&b[0], n)
}

func TestP18_2Length(t *testing.T) {
	if s, e := Write([]api.Entry{{Name: "n", Type: '0', Data: long(t, 1<<33)}}); s != "" || e != api.ErrArg {
		t.Errorf("%d bytes, %d", len(s), e)
	}
}

func TestP18_1End(t *testing.T) {
	x := api.Entry{Name: "name", Mode: 0o644, Type: '0', Data: "12345"}
	first := block() + fill("12345", 512)
	for _, c := range []struct {
		ahead string
		l     []api.Entry
	}{{"", nil}, {first, []api.Entry{x}}, {first + first, []api.Entry{x, x}}} {
		reads(t, c.ahead+zeros(1024), c.l, api.OK)
		for n := range 1024 {
			fails(t, c.ahead+zeros(n), api.ErrCut)
		}
		for _, tail := range []string{"x", "\x00", zeros(511), zeros(512), zeros(1024), first + zeros(1024)} {
			fails(t, c.ahead+zeros(1024)+tail, api.ErrForm)
		}
		for i := range 512 {
			fails(t, c.ahead+zeros(512)+change(zeros(512), i, "\x01"), api.ErrForm)
			fails(t, c.ahead+zeros(512)+change(zeros(512), i, "\xff")[:511], api.ErrCut)
		}
		fails(t, c.ahead+zeros(512)+first+zeros(1024), api.ErrForm)
	}
}

// TestP18_1Cut: at each place.
func TestP18_1Cut(t *testing.T) {
	random := rand.New(rand.NewSource(2))
	for range 20 {
		s, _ := Write([]api.Entry{randomEntry(random), randomEntry(random)})
		for n := range len(s) {
			if e := sameRead(t, s[:n]); e != api.ErrCut {
				t.Errorf("%d of %d bytes: %d", n, len(s), e)
			}
		}
	}
}

func TestP18_1Sum(t *testing.T) {
	good := archive(block(), "12345")
	if e := sameRead(t, good); e != api.OK {
		t.Fatal(e)
	}
	for i := range 8 {
		for c := range 256 {
			s := change(good, 148+i, string([]byte{byte(c)}))
			e := api.ErrForm
			if i < 6 && strings.Contains(octals, string([]byte{byte(c)})) {
				e = api.ErrSum
			}
			if s == good {
				e = api.OK
			}
			if f := sameRead(t, s); f != e {
				t.Errorf("byte %d of the checksum as %d: %d, not %d", i, c, f, e)
			}
		}
	}
	for _, sum := range []string{"000000\x00 ", "777777\x00 "} {
		fails(t, change(good, 148, sum), api.ErrSum)
	}
	for _, sum := range []string{zeros(8), "        ", " 12345\x00 ", "+12345\x00 ", "-12345\x00 ", "0o1234\x00 ", "0x1234\x00 ", "1_2345\x00 ", "012345 \x00", "0012345\x00", "00012345", "12345\x00  ", "00123\x00\x00 ", "012348\x00 "} {
		fails(t, change(good, 148, sum), api.ErrForm)
	}
	// Without a mended checksum, whatever is changed is known by it.
	for i := range 512 {
		if i < 148 || i >= 156 {
			fails(t, change(good, i, string([]byte{good[i] ^ 1})), api.ErrSum)
		}
	}
}

// TestP18_1EveryByte of a header, with each value, and a correct checksum.
func TestP18_1EveryByte(t *testing.T) {
	link := modelBlock(api.Entry{Name: "name", Mode: 1, Uid: 2, Gid: 3, Mtime: 4, Type: '2', Link: strings.Repeat("l", 100)}, strings.Repeat("d", 155), strings.Repeat("n", 100), 0)
	for _, header := range []string{block(), link, modelBlock(api.Entry{Type: '5'}, "prefix", "name", 0)} {
		seen := map[api.Errno]int{}
		for i := range 512 {
			for c := range 256 {
				s := summed(change(header, i, string([]byte{byte(c)})))
				seen[sameRead(t, archive(s, fill("12345", 512)))]++
				sameRead(t, archive(s, ""))
			}
		}
		if seen[api.ErrForm] < 10000 || seen[api.ErrSum] != 0 {
			t.Errorf("%v", seen)
		}
	}
}

// TestP18_1Fields that are not as they must be, with a correct checksum.
func TestP18_1Fields(t *testing.T) {
	good := block()
	for _, c := range []struct {
		at   int
		text string
	}{
		{0, zeros(100)}, {0, "\x00ame"}, {0, "n\x00me"}, {99, "x"},
		{100, "77777777"}, {100, "000644 \x00"}, {100, " 000644\x00"}, {100, "000644\x00\x00"}, {100, zeros(8)}, {100, "0000648\x00"}, {100, "-000644\x00"}, {100, "0000644 "}, {100, "0o00644\x00"},
		{108, "77777777"}, {108, zeros(8)}, {116, "77777777"}, {116, zeros(8)}, {116, "0000000 "},
		{124, "777777777777"}, {124, zeros(12)}, {124, "+0000000005\x00"}, {124, "00000000005 "}, {124, "\x80\x00\x00\x00\x00\x00\x00\x00\x00\x00\x00\x05"},
		{136, "777777777777"}, {136, zeros(12)}, {136, "00000000000 "},
		{156, "\x00"}, {156, "1"}, {156, "2"}, {156, "5"}, {156, "6"}, {157, "l"}, {158, "l"}, {256, "l"},
		{257, "ustar  \x00"}, {257, "ustar\x0001"}, {257, zeros(8)}, {257, "USTAR\x0000"},
		{265, "root"}, {328, "x"}, {329, zeros(8)}, {329, "0000001\x00"}, {337, zeros(8)}, {337, "0000001\x00"}, {336, "0"}, {346, "x"}, {499, "x"}, {500, "x"}, {511, "x"},
	} {
		fails(t, archive(summed(change(good, c.at, c.text)), "12345"), api.ErrForm)
	}
	for _, typ := range []byte{'2', '5'} {
		x := api.Entry{Name: "n", Type: typ, Link: map[byte]string{'2': "l", '5': ""}[typ]}
		fails(t, archive(modelBlock(x, "", "n", 5), "12345"), api.ErrForm)
		reads(t, archive(modelBlock(x, "", "n", 0), ""), []api.Entry{x}, api.OK)
	}
	fails(t, archive(modelBlock(api.Entry{Type: '2'}, "", "n", 0), ""), api.ErrForm)
	fails(t, archive(modelBlock(api.Entry{Type: '5', Link: "l"}, "", "n", 0), ""), api.ErrForm)
	fails(t, archive(modelBlock(api.Entry{Type: '0'}, "prefix", "", 0), ""), api.ErrForm)
	fails(t, archive(modelBlock(api.Entry{Type: '0'}, "", "", 0), ""), api.ErrForm)
}

// TestP18_1Names: they may be split in other ways than by Write.
func TestP18_1Names(t *testing.T) {
	for _, c := range [][2]string{
		{"", "n"}, {"d", "n"}, {"d", "a/b"}, {"a/b", "n"}, {"/", "n"}, {"d", "/"}, {"/", "/"}, {"d/", "n"}, {"", "/"}, {"", strings.Repeat("n", 100)}, {"d", strings.Repeat("n", 100)},
		{strings.Repeat("d", 155), "n"}, {strings.Repeat("/", 155), strings.Repeat("/", 100)}, {strings.Repeat("d/", 77), strings.Repeat("n/", 50)}, {strings.Repeat("d", 100) + "/d", "n"},
	} {
		x := api.Entry{Name: c[1], Type: '0', Data: "z"}
		if c[0] != "" {
			x.Name = c[0] + "/" + c[1]
		}
		reads(t, archive(modelBlock(x, c[0], c[1], 1), "z"), []api.Entry{x}, api.OK)
	}
}

func TestP18_1Data(t *testing.T) {
	for _, n := range []int{0, 1, 5, 511, 512, 513, 1023, 1024} {
		x := api.Entry{Name: "n", Type: '0', Data: strings.Repeat("z", n)}
		b := modelBlock(x, "", "n", n)
		s := archive(b, x.Data)
		reads(t, s, []api.Entry{x}, api.OK)
		for i := 512 + n; i < len(s)-end; i++ {
			fails(t, change(s, i, "\x01"), api.ErrForm)
			// What is not there is missed first.
			fails(t, change(s, i, "\x01")[:len(s)-end-1], api.ErrCut)
		}
		fails(t, s[:len(s)-end], api.ErrCut)
	}
	// Lengths that are more than any archive has.
	for _, n := range []int{1<<33 - 1, 1<<33 - 512, 1 << 31, 1<<31 - 1, 1<<32 - 1} {
		fails(t, archive(modelBlock(api.Entry{Type: '0'}, "", "n", n), "z"), api.ErrCut)
	}
}

// TestP18_1Order: of several errors, the one that the promise names first, block by block.
func TestP18_1Order(t *testing.T) {
	bad := change(block(), 257, "USTAR")            // a wrong checksum, too
	form := change(bad, 148, "x")                   // without its form
	none := summed(change(bad, 124, "00000000777")) // no header, and its Data are cut
	cut := summed(change(block(), 124, "00000000777"))
	pads := block() + "12345" + strings.Repeat("x", 507)
	good := block() + fill("12345", 512)
	for i, first := range []string{form, bad, none, cut, pads} {
		e := []api.Errno{api.ErrForm, api.ErrSum, api.ErrForm, api.ErrCut, api.ErrForm}[i]
		fails(t, first, e)
		fails(t, good+first, e)
		if i < 3 {
			fails(t, first+pads, e)
			fails(t, first+good+zeros(100), e)
		}
		fails(t, first[:511], api.ErrCut)
	}
	fails(t, pads+form, api.ErrForm)
	fails(t, pads+bad, api.ErrForm)
	fails(t, good+bad+form, api.ErrSum)
	fails(t, zeros(512)+bad, api.ErrForm)
	fails(t, zeros(512)+bad[:511], api.ErrCut)
}

// TestP18_1Changed: with fields and bytes changed, there is what the model returns.
func TestP18_1Changed(t *testing.T) {
	random := rand.New(rand.NewSource(3))
	seen := map[api.Errno]int{}
	for range 20000 {
		var l []api.Entry
		for range random.Intn(3) {
			l = append(l, randomEntry(random))
		}
		s, _ := Write(l)
		for range random.Intn(3) {
			i := random.Intn(len(s))
			s = change(s, i, string([]byte{"\x00\x0017 /xu"[random.Intn(8)]}))
			if i = i / 512 * 512; random.Intn(2) == 0 && s[i:i+512] != zeros(512) {
				s = s[:i] + summed(s[i:i+512]) + s[i+512:]
			}
		}
		if random.Intn(5) == 0 {
			s = s[:random.Intn(len(s))]
		}
		seen[sameRead(t, s)]++
	}
	for _, e := range []api.Errno{api.OK, api.ErrCut, api.ErrForm, api.ErrSum} {
		if seen[e] < 500 {
			t.Errorf("error %d: %d times", e, seen[e])
		}
	}
}

// TestP18_3ReadAgain: whatever is read can be written, and is read back then, however its names were split.
func TestP18_3ReadAgain(t *testing.T) {
	random := rand.New(rand.NewSource(4))
	for range 3000 {
		x := randomEntry(random)
		prefix, name := words(random, random.Intn(156)), words(random, 1+random.Intn(100))
		s := archive(modelBlock(x, prefix, name, len(x.Data)), x.Data)
		l, e := Read(s)
		if e != api.OK || len(l) != 1 {
			t.Fatalf("%q: %d", s, e)
		}
		if _, e := sameWrite(t, l); e != api.OK {
			t.Errorf("%v: %d", l, e)
		}
	}
}

// plainEntry is one that other programs can hold: they ask for names of plain letters.
func plainEntry(random *rand.Rand) api.Entry {
	x := randomEntry(random)
	plain := func(s string) string {
		b := []byte(s)
		for i := range b {
			b[i] = "abcdefghijklmnopqrstuvwxyz"[b[i]%26]
		}
		return string(b)
	}
	x.Link, x.Data = plain(x.Link), plain(x.Data)
	x.Name = plain(x.Name)
	if len(x.Name) > 100 {
		x.Name = change(x.Name, len(x.Name)-100, "/")
	}
	return x
}

func TestP18_1OfAnotherWriter(t *testing.T) {
	random := rand.New(rand.NewSource(5))
	for range 1000 {
		var l []api.Entry
		var b bytes.Buffer
		w := other.NewWriter(&b)
		for range random.Intn(4) {
			x := plainEntry(random)
			l = append(l, x)
			h := &other.Header{Typeflag: x.Type, Name: x.Name, Linkname: x.Link, Size: int64(len(x.Data)), Mode: int64(x.Mode), Uid: x.Uid, Gid: x.Gid, ModTime: time.Unix(int64(x.Mtime), 0), Format: other.FormatUSTAR}
			if err := w.WriteHeader(h); err != nil {
				t.Fatalf("%v: %v", x, err)
			}
			w.Write([]byte(x.Data))
		}
		if err := w.Close(); err != nil {
			t.Fatal(err)
		}
		reads(t, b.String(), l, api.OK)
	}
}

func TestP18_2OtherReader(t *testing.T) {
	random := rand.New(rand.NewSource(6))
	for range 1000 {
		var l []api.Entry
		for range random.Intn(4) {
			l = append(l, plainEntry(random))
		}
		s, _ := Write(l)
		r := other.NewReader(strings.NewReader(s))
		for _, x := range l {
			h, err := r.Next()
			if err != nil {
				t.Fatalf("%v: %v", x, err)
			}
			data, _ := io.ReadAll(r)
			y := api.Entry{Name: h.Name, Mode: int(h.Mode), Uid: h.Uid, Gid: h.Gid, Mtime: int(h.ModTime.Unix()), Type: h.Typeflag, Link: h.Linkname, Data: string(data)}
			if y != x {
				t.Errorf("%v, not %v", y, x)
			}
		}
		if _, err := r.Next(); err != io.EOF {
			t.Errorf("%v: %v", l, err)
		}
	}
}

// inside tells whether the bytes of a lie in those of b.
func inside(a string, b string) bool {
	at, from := uintptr(unsafe.Pointer(unsafe.StringData(a))), uintptr(unsafe.Pointer(unsafe.StringData(b)))
	return a != "" && at >= from && at < from+uintptr(len(b))
}

// TestR5Memory: what is returned is new, and arguments stay as they are.
func TestR5Memory(t *testing.T) {
	random := rand.New(rand.NewSource(7))
	for range 200 {
		l := []api.Entry{randomEntry(random), randomEntry(random)}
		before := slices.Clone(l)
		s, _ := Write(l)
		m, _ := Read(s)
		for _, x := range m {
			if inside(x.Name, s) || inside(x.Link, s) || inside(x.Data, s) {
				t.Errorf("%v lies in the argument", x)
			}
		}
		m[0].Name = "changed"
		reads(t, s, before, api.OK) // R6
		if again, e := Write(l); again != s || e != api.OK || !slices.Equal(l, before) {
			t.Errorf("%v: another answer", before)
		}
	}
}

func TestExamplesOfTheChapter(t *testing.T) {
	for _, l := range [][]api.Entry{nil, {}} {
		if s, e := Write(l); s != zeros(1024) || e != api.OK {
			t.Errorf("%d bytes, %d", len(s), e)
		}
	}
	if s, e := Write([]api.Entry{{Name: "a", Type: '0', Data: "x"}}); len(s) != 2048 || e != api.OK {
		t.Errorf("%d bytes, %d", len(s), e)
	}
}
