package sfnt

import (
	"math/bits"
	"math/rand"
	"slices"
	"strings"
	"testing"
	"unsafe"

	"mortise/api"
)

func TestP22_2Bytes(t *testing.T) {
	l := []api.Table{{Tag: "OS/2", Data: "\x01\x02\x03\x04\x05\x06"}, {Tag: "cmap"}, {Tag: "cvt ", Data: "\xff\xff\xff\xff\x00\x00\x00\x02"}, {Tag: "prep"}, {Tag: "~~~~", Data: "z"}}
	want := "\x00\x05\x00\x40\x00\x02\x00\x10" +
		"OS/2\x06\x08\x03\x04\x00\x00\x00\x5c\x00\x00\x00\x06" +
		"cmap\x00\x00\x00\x00\x00\x00\x00\x64\x00\x00\x00\x00" +
		"cvt \x00\x00\x00\x01\x00\x00\x00\x64\x00\x00\x00\x08" +
		"prep\x00\x00\x00\x00\x00\x00\x00\x6c\x00\x00\x00\x00" +
		"~~~~\x7a\x00\x00\x00\x00\x00\x00\x6c\x00\x00\x00\x01" +
		"\x01\x02\x03\x04\x05\x06\x00\x00" + "\xff\xff\xff\xff\x00\x00\x00\x02" + "z\x00\x00\x00"
	for kind, first := range map[uint32]string{0x00010000: "\x00\x01\x00\x00", 0x4f54544f: "OTTO"} {
		if s, e := sameWrite(t, kind, l); s != first+want || e != api.OK {
			t.Errorf("%q, %d", s, e)
		}
	}
}

func TestP22_2Kinds(t *testing.T) {
	for bit := range 32 {
		writes(t, plain^1<<bit, sample(), api.ErrArg)
		writes(t, otto^1<<bit, sample(), api.ErrArg)
	}
	for _, kind := range []uint32{0, 1, 0x100, 0x20000, 0x74727565, 0xffffffff} {
		writes(t, kind, sample(), api.ErrArg)
	}
}

// many are n tables with ascending Tags.
func many(n int) []api.Table {
	l := make([]api.Table, n)
	for i := range l {
		l[i] = api.Table{Tag: octet(32+i/95/95) + octet(32+i/95%95) + "." + octet(32+i%95)}
		if i%3 == 0 {
			l[i].Data = strings.Repeat("d", i%7)
		}
	}
	return l
}

// TestP22_2Counts: each number of tables.
func TestP22_2Counts(t *testing.T) {
	writes(t, plain, nil, api.ErrArg)
	writes(t, plain, []api.Table{}, api.ErrArg)
	for n := 1; n <= 1000; n++ {
		s, e := Write(otto, many(n))
		if e != api.OK || s[:12] != head(otto, n) {
			t.Errorf("%d tables: %.12q, %d", n, s, e)
		}
		if kind, l, e := Read(s); kind != otto || !slices.Equal(l, many(n)) || e != api.OK {
			t.Errorf("%d tables: %x, %d", n, kind, e)
		}
	}
	for _, n := range []int{1, 2, 3, 4, 511, 512, 513, 999, 1000} {
		writes(t, plain, many(n), api.OK)
	}
	for _, n := range []int{1001, 1024, 65536, 65537} {
		writes(t, plain, many(n), api.ErrArg)
	}
}

func TestPower(t *testing.T) {
	for n := 1; n < 5000; n++ {
		if p, e := power(n); e != bits.Len(uint(n))-1 || p != 1<<e {
			t.Errorf("%d: %d, %d", n, p, e)
		}
	}
}

// TestP22_2Tags: each byte at each place, other lengths, and their order.
func TestP22_2Tags(t *testing.T) {
	good := 0
	for i := range 4 {
		for c := range 256 {
			tag := change("mmmm", i, octet(c))
			e := api.ErrArg
			if c >= 32 && c <= 126 {
				e = api.OK
				good++
			}
			writes(t, plain, []api.Table{{Tag: tag, Data: "x"}}, e)
			l := []api.Table{{Tag: tag, Data: "x"}, {Tag: "mmmm"}}
			if tag >= "mmmm" {
				e = api.ErrArg
			}
			writes(t, plain, l, e)
		}
	}
	if good != 4*95 {
		t.Errorf("%d are good", good)
	}
	for _, tag := range []string{"", "a", "abc", "abcde", "\xc3\xa4bc", "abcdabcd"} {
		writes(t, plain, []api.Table{{Tag: tag}}, api.ErrArg)
		writes(t, plain, []api.Table{{Tag: "    "}, {Tag: tag}}, api.ErrArg)
	}
	for _, tags := range []string{"aaaaaaaa", "bbbbaaaa", "aaaabbbbbbbb", "aaaaccccbbbb", "bbbbccccaaaa", "aaaaccccaaaa", "aaaaAAAA"} {
		var l []api.Table
		for ; tags != ""; tags = tags[4:] {
			l = append(l, api.Table{Tag: tags[:4]})
		}
		writes(t, plain, l, api.ErrArg)
	}
	writes(t, plain, []api.Table{{Tag: "AAAA"}, {Tag: "AAAa"}, {Tag: "aAAA"}}, api.OK)
}

// TestP22_2Lengths: of each Data, and of all together.
func TestP22_2Lengths(t *testing.T) {
	long := zeros(1<<24 + 1)
	for _, n := range []int{1<<24 - 5, 1<<24 - 1, 1 << 24} {
		l := []api.Table{{Tag: "aaaa", Data: long[:n]}, {Tag: "bbbb", Data: "x"}}
		s, e := Write(plain, l)
		if e != api.OK || len(s) != 44+(n+3)/4*4+4 {
			t.Errorf("%d bytes: %d bytes, %d", n, len(s), e)
		}
		if kind, m, e := Read(s); kind != plain || !slices.Equal(m, l) || e != api.OK {
			t.Errorf("%d bytes: %d", n, e)
		}
	}
	if s, e := Write(plain, []api.Table{{Tag: "aaaa", Data: long}}); s != "" || e != api.ErrArg {
		t.Errorf("%d bytes, %d", len(s), e)
	}
	// 64 tables that are as long as they may be are too long together; one word less isn't.
	for n := range 12 {
		l := many(64)
		for i := range l {
			l[i].Data = long[:1<<24]
		}
		l[63].Data = long[:1<<24-n]
		if areValid(l) != (n >= 4) {
			t.Errorf("%d bytes less: %v", n, areValid(l))
		}
		if n < 4 {
			if s, e := Write(plain, l); s != "" || e != api.ErrArg {
				t.Errorf("%d bytes less: %d bytes, %d", n, len(s), e)
			}
		}
	}
	all := many(1000)
	for i := range all {
		all[i].Data = long[:1<<24]
	}
	if s, e := Write(plain, all); s != "" || e != api.ErrArg {
		t.Errorf("%d bytes, %d", len(s), e)
	}
}

// TestP22_3WrittenIsRead, and checksums are those of the words.
func TestP22_3WrittenIsRead(t *testing.T) {
	random := rand.New(rand.NewSource(4))
	for range 10000 {
		l := randomTables(random)
		s, e := sameWrite(t, []uint32{plain, otto}[random.Intn(2)], l)
		if e != api.OK {
			t.Fatalf("%q: %d", l, e)
		}
		// The words of all Data are those of each.
		sum := 0
		for i := range l {
			sum += int32At(s, 12+16*i+4)
		}
		if data := s[12+16*len(l):]; sum%(1<<32) != wordsOf(data) {
			t.Errorf("%q: %x, not %x", l, sum, wordsOf(data))
		}
	}
}

// lies tells whether the bytes of a lie in those of b.
func lies(a string, b string) bool {
	at, from := uintptr(unsafe.Pointer(unsafe.StringData(a))), uintptr(unsafe.Pointer(unsafe.StringData(b)))
	return a != "" && at >= from && at < from+uintptr(len(b))
}

// TestR5Memory: what is returned is new, and arguments stay as they are.
func TestR5Memory(t *testing.T) {
	l := slices.Grow(sample(), 5)
	s, e := Write(plain, l)
	if !slices.Equal(l, sample()) || l[:len(l)+1][len(l)] != (api.Table{}) || e != api.OK {
		t.Errorf("%q, %d", l, e)
	}
	for range 2 {
		kind, m, e := Read(s)
		if kind != plain || !slices.Equal(m, sample()) || e != api.OK { // R6
			t.Fatalf("%x, %q, %d", kind, m, e)
		}
		for i, x := range m {
			if lies(x.Tag, s) || lies(x.Data, s) {
				t.Errorf("table %d lies in the argument", i)
			}
			m[i] = api.Table{Tag: "xxxx"}
		}
	}
	if again, e := Write(plain, l); again != s || e != api.OK {
		t.Errorf("%q, %d", again, e)
	}
}

func TestExamplesOfTheChapter(t *testing.T) {
	s, e := sameWrite(t, 0x00010000, []api.Table{{Tag: "head", Data: "abcde"}})
	if len(s) != 36 || e != api.OK || s[12:] != "head\xc6\x62\x63\x64\x00\x00\x00\x1c\x00\x00\x00\x05abcde\x00\x00\x00" {
		t.Errorf("%q, %d", s, e)
	}
	// Examples of the whole: a font is cut, if it has only a kind.
	reads(t, "OTTO", api.ErrCut)
}
