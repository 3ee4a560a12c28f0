package zip

import (
	"io"
	"math"
	"math/rand"
	"slices"
	"strconv"
	"strings"
	"syscall"
	"testing"
	"unsafe"

	other "archive/zip"

	"mortise/api"
)

func TestP21_2Bytes(t *testing.T) {
	l := []api.Member{{Name: "a.txt", Time: 0x4030201, Data: "hello"}, {Name: "b", Method: 8, Time: 1<<32 - 1}}
	want := "PK\x03\x04\x14\x00\x00\x00\x00\x00\x01\x02\x03\x04\x86\xa6\x10\x36\x05\x00\x00\x00\x05\x00\x00\x00\x05\x00\x00\x00a.txthello" +
		"PK\x03\x04\x14\x00\x00\x00\x08\x00\xff\xff\xff\xff\x00\x00\x00\x00\x02\x00\x00\x00\x00\x00\x00\x00\x01\x00\x00\x00b\x03\x00" +
		"PK\x01\x02\x14\x00\x14\x00\x00\x00\x00\x00\x01\x02\x03\x04\x86\xa6\x10\x36\x05\x00\x00\x00\x05\x00\x00\x00\x05\x00\x00\x00\x00\x00\x00\x00\x00\x00\x00\x00\x00\x00\x00\x00\x00\x00a.txt" +
		"PK\x01\x02\x14\x00\x14\x00\x00\x00\x08\x00\xff\xff\xff\xff\x00\x00\x00\x00\x02\x00\x00\x00\x00\x00\x00\x00\x01\x00\x00\x00\x00\x00\x00\x00\x00\x00\x00\x00\x00\x00\x28\x00\x00\x00b" +
		"PK\x05\x06\x00\x00\x00\x00\x02\x00\x02\x00\x62\x00\x00\x00\x49\x00\x00\x00\x00\x00"
	if s, e := sameWrite(t, l); s != want || e != api.OK {
		t.Errorf("%q, %d, not %q", s, e, want)
	}
	// A length and an offset of more than two bytes.
	long := strings.Repeat("0123456789", 7000)
	s, e := sameWrite(t, []api.Member{{Name: "long", Data: long}, {Name: "next", Data: "x"}})
	if e != api.OK || s[18:26] != "\x70\x11\x01\x00\x70\x11\x01\x00" || s[len(s)-22-8:len(s)-22] != "\x92\x11\x01\x00next" || s[len(s)-6:] != "\xb5\x11\x01\x00\x00\x00" {
		t.Errorf("%q, %d", s[len(s)-60:], e)
	}
}

func errorOf(ok bool) api.Errno {
	if ok {
		return api.OK
	}
	return api.ErrArg
}

// TestP21_2Arguments: each alone, and beside valid members.
func TestP21_2Arguments(t *testing.T) {
	try := func(x api.Member, ok bool) {
		t.Helper()
		for _, l := range [][]api.Member{{x}, append(sample(), x), append([]api.Member{x}, sample()...)} {
			writes(t, l, errorOf(ok))
		}
	}
	for _, n := range []int{0, 1, 2, 7, 8, 9, 16, -1, -8, 99, 1 << 8, 1 << 16, 1<<16 + 8, 1 << 32, 1<<32 + 8, math.MaxInt, math.MinInt} {
		try(api.Member{Name: "n", Method: n, Data: "data"}, n == 0 || n == 8)
	}
	for _, n := range []int{0, 1, 65535, 65536, 1<<31 - 1, 1 << 31, 1<<32 - 1, 1 << 32, 1<<32 + 1, 1 << 48, math.MaxInt, -1, -(1 << 32), math.MinInt} {
		try(api.Member{Name: "n", Time: n, Data: "data"}, n >= 0 && n < 1<<32)
		try(api.Member{Name: "n", Method: 8, Time: n}, n >= 0 && n < 1<<32)
	}
	for _, n := range []int{0, 1, 2, 255, 256, 65534, 65535, 65536, 65537, 1<<17 - 1} {
		try(api.Member{Name: strings.Repeat("n", n), Data: "data"}, n > 0 && n < 65536)
		try(api.Member{Name: strings.Repeat("\x00", n), Method: 8}, n > 0 && n < 65536)
	}
	for c := range 256 {
		try(api.Member{Name: octet(c), Method: 8 * (c % 2), Data: octet(c)}, true)
	}
	try(api.Member{}, false)
	// Names may be there several times.
	writes(t, append(sample(), sample()...), api.OK)
}

// TestP21_2Many: as many members as there may be, and one more.
func TestP21_2Many(t *testing.T) {
	l := make([]api.Member, 65536)
	for i := range l {
		l[i] = api.Member{Name: strconv.Itoa(i), Method: 8 * (i % 2), Data: strings.Repeat("d", i%3)}
	}
	for _, n := range []int{65534, 65535} {
		s, e := Write(l[:n])
		if e != api.OK {
			t.Fatalf("%d", e)
		}
		if m, e := Read(s, sizeOf(l)); !slices.Equal(m, l[:n]) || e != api.OK {
			t.Errorf("%d members: %d", n, e)
		}
	}
	if s, e := Write(l); s != "" || e != api.ErrArg {
		t.Errorf("%d bytes, %d", len(s), e)
	}
	writes(t, []api.Member{}, api.OK)
	writes(t, nil, api.OK)
}

// long is a string of n bytes 0 that take memory only where they are looked at.
func long(t *testing.T, n int) string {
	t.Helper()
	b, err := syscall.Mmap(-1, 0, n, syscall.PROT_READ, syscall.MAP_ANON|syscall.MAP_PRIVATE|syscall.MAP_NORESERVE)
	if err != nil {
		t.Skip(err)
	}
	t.Cleanup(func() { syscall.Munmap(b) })
	return unsafe.String(&b[0], n)
}

// TestP21_2Length: an archive may have 2^31 - 1 bytes.
func TestP21_2Length(t *testing.T) {
	const most = 1<<31 - 1 - 22 - 30 - 46 - 2 // the Data of a single member whose Name has one byte
	s := long(t, 1<<33)
	members := func(lengths ...int) []api.Member {
		var l []api.Member
		for _, n := range lengths {
			l = append(l, api.Member{Name: "n", Data: s[:n]})
		}
		return l
	}
	for _, lengths := range [][]int{{most}, {most - 1}, {most - 78, 0}, {0, most - 78}, {3, most - 81}, {most/2 - 39, most/2 - 39}} {
		if _, x, ok := place(members(lengths...)); !ok || x.centralAt+x.centralWidth+22 > 1<<31-1 {
			t.Errorf("%d: %v, %v", lengths, x, ok)
		}
	}
	for _, lengths := range [][]int{{most + 1}, {most - 77, 0}, {0, most - 77}, {3, most - 80}, {most/2 - 38, most/2 - 38}, {1<<31 - 1}, {1 << 31}, {1<<32 + 1}, {1 << 33}, {1 << 33, 1 << 33, 5}, {1, 1 << 31}} {
		l := members(lengths...)
		if s, e := Write(l); s != "" || e != api.ErrArg {
			t.Errorf("%d: %d bytes, %d", lengths, len(s), e)
		}
	}
	// Too many bytes of one member are known before any is compressed.
	if s, e := Write([]api.Member{{Name: "n", Method: 8, Data: s[:1<<31]}}); s != "" || e != api.ErrArg {
		t.Errorf("%d bytes, %d", len(s), e)
	}
	if !isValid(api.Member{Name: "n", Data: s[:1<<31-1]}) || isValid(api.Member{Name: "n", Data: s[:1<<31]}) || isValid(api.Member{Name: "n", Data: s}) {
		t.Error("lengths of Data")
	}
	// Names count, those of both headers.
	l := slices.Repeat([]api.Member{{Name: s[:65535]}}, 65535)
	if s, e := Write(l); s != "" || e != api.ErrArg {
		t.Errorf("%d bytes, %d", len(s), e)
	}
	const each = 2*65535 + 76
	n := (1<<31 - 1 - 22) / each
	if _, _, ok := place(l[:n]); !ok {
		t.Errorf("%d members", n)
	}
	if _, _, ok := place(l[:n+1]); ok {
		t.Errorf("%d members", n+1)
	}
}

// TestP21_2OtherReader reads the same.
func TestP21_2OtherReader(t *testing.T) {
	random := rand.New(rand.NewSource(5))
	for range 1000 {
		l := files(random)
		s, e := sameWrite(t, l)
		if e != api.OK {
			t.Fatalf("%v: %d", l, e)
		}
		r, err := other.NewReader(strings.NewReader(s), int64(len(s)))
		if err != nil || len(r.File) != len(l) || r.Comment != "" {
			t.Fatalf("%v: %v", l, err)
		}
		for i, f := range r.File {
			c, err := f.Open()
			if err != nil {
				t.Fatalf("%v: %v", l, err)
			}
			b, err := io.ReadAll(c)
			if x := l[i]; err != nil || string(b) != x.Data || f.Name != x.Name || int(f.Method) != x.Method || int(f.ModifiedDate)<<16+int(f.ModifiedTime) != x.Time || f.Flags != 0 || f.Comment != "" || len(f.Extra) != 0 {
				t.Errorf("%v: %v, %q, %v", x, f.FileHeader, b, err)
			}
		}
	}
}

// TestP21_3WrittenIsRead, with a limit that just suffices, and not with one that doesn't.
func TestP21_3WrittenIsRead(t *testing.T) {
	random := rand.New(rand.NewSource(6))
	for range 5000 {
		l := randomMembers(random)
		s, e := sameWrite(t, l)
		if e != api.OK {
			t.Fatalf("%v: %d", l, e)
		}
		if n := sizeOf(l); n > 0 {
			if m, e := Read(s, n-1); m != nil || e != api.ErrLimit {
				t.Errorf("%v: %v, %d", l, m, e)
			}
		}
	}
	big := noise(random, 1<<20)
	sameWrite(t, []api.Member{{Name: "noise", Method: 8, Data: big}, {Name: "stored", Data: big}, {Name: "nothing", Method: 8, Data: strings.Repeat("\x00", 1<<22)}})
}

// lies tells whether the bytes of a lie in those of b.
func lies(a string, b string) bool {
	at, from := uintptr(unsafe.Pointer(unsafe.StringData(a))), uintptr(unsafe.Pointer(unsafe.StringData(b)))
	return a != "" && at >= from && at < from+uintptr(len(b))
}

// TestR5Memory: what is returned is new, and arguments stay as they are.
func TestR5Memory(t *testing.T) {
	l := slices.Grow(sample(), 5)
	s, e := Write(l)
	if !slices.Equal(l, sample()) || l[:len(l)+1][len(l)] != (api.Member{}) || e != api.OK {
		t.Errorf("%v, %d", l, e)
	}
	for range 2 {
		m, e := Read(s, 505)
		if !slices.Equal(m, sample()) || e != api.OK { // R6
			t.Fatalf("%v, %d", m, e)
		}
		for i, x := range m {
			if lies(x.Name, s) || lies(x.Data, s) {
				t.Errorf("member %d lies in the argument", i)
			}
			m[i] = api.Member{Name: "x"}
		}
	}
	if again, e := Write(l); again != s || e != api.OK {
		t.Errorf("%q, %d", again, e)
	}
}

func TestExamplesOfTheChapter(t *testing.T) {
	want := "PK\x05\x06" + strings.Repeat("\x00", 18)
	if s, e := sameWrite(t, nil); s != want || e != api.OK {
		t.Errorf("%q, %d", s, e)
	}
	// Examples of the whole: two members on the same bytes.
	x := partOf(api.Member{Name: "a", Data: "x"}, "x")
	reads(t, ended(x.local(), x.central()+x.central(), 2).file(), api.ErrOverlap)
}
