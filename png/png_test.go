package png

import (
	"math/rand"
	"slices"
	"strings"
	"syscall"
	"testing"
	"unsafe"

	"mortise/api"
)

func splits(t *testing.T, s string, e api.Errno) {
	t.Helper()
	if l, f := Split(s); f != e || e != api.OK && l != nil {
		t.Errorf("%.90x: %q, %d, not %d", s, l, f, e)
	}
	sameSplit(t, s)
}

func joins(t *testing.T, l []api.Chunk, e api.Errno) {
	t.Helper()
	want := ""
	if e == api.OK {
		want = raws(l)
	}
	if s, f := Join(l); s != want || f != e {
		t.Errorf("%.90q: %.90x, %d, not %.90x, %d", l, s, f, want, e)
	}
}

// lists are of chunks that can be joined.
func lists() [][]api.Chunk {
	end := api.Chunk{Type: "IEND"}
	return [][]api.Chunk{
		{end},
		{{Type: "IEND", Data: "abc"}},
		{{Type: "abcd"}, end},
		{{Type: "IHDR", Data: "x"}, {Type: "zZaA", Data: "IEND"}, {Type: "zZaA", Data: "IEND"}, end},
		{{Type: "iEND"}, {Type: "IENd"}, {Type: "ABCD", Data: mark}, {Type: "WXYZ", Data: strings.Repeat("\xff", 70000)}, end},
	}
}

func TestP17_1SplitAndJoin(t *testing.T) {
	for _, l := range lists() {
		s := raws(l)
		joins(t, l, api.OK)
		if m, e := Split(s); !slices.Equal(m, l) || e != api.OK {
			t.Errorf("%.90q: %.90q, %d", l, m, e)
		}
	}
	if s, e := Join([]api.Chunk{{Type: "IEND"}}); s != "\x89PNG\r\n\x1a\n\x00\x00\x00\x00IEND\xae\x42\x60\x82" || e != api.OK {
		t.Errorf("%x, %d", s, e)
	}
}

// TestP17_1Cut: whatever is too short is ErrCut, at each place.
func TestP17_1Cut(t *testing.T) {
	for _, l := range lists() {
		s := raws(l)
		for cut := 0; cut < len(s); cut += 1 + len(s)/1000 {
			splits(t, s[:cut], api.ErrCut)
		}
	}
	// That comes ahead of all that is wrong with it.
	splits(t, "xxxxxxx", api.ErrCut)
	splits(t, mark, api.ErrCut)
	splits(t, mark+"\xff\xff\xff\xff123", api.ErrCut)
	splits(t, mark+raw("abcd", ""), api.ErrCut)
	splits(t, mark+raw("abcd", "")+raw("1234", "")[:7], api.ErrCut)
	splits(t, mark+"\x00\x00\x00\x01abcd", api.ErrCut)
	splits(t, mark+"\x00\x00\x00\x00abcdxxx", api.ErrCut)
	splits(t, mark+"\x00\x00\x00\x01IENDaxxx", api.ErrCut)
}

func TestP17_1Signature(t *testing.T) {
	s := raws(lists()[0])
	for i := range 8 {
		for bit := range 8 {
			b := []byte(s)
			b[i] ^= 1 << bit
			splits(t, string(b), api.ErrForm)
			splits(t, string(b[:8]), api.ErrForm)
		}
	}
	splits(t, "xxxxxxxx", api.ErrForm)
	splits(t, "x"+s, api.ErrForm)
}

func TestP17_1Length(t *testing.T) {
	for _, c := range []struct {
		n uint32
		e api.Errno
	}{{0, api.OK}, {1, api.ErrCut}, {1<<31 - 13, api.ErrCut}, {1<<31 - 2, api.ErrCut}, {1<<31 - 1, api.ErrCut}, {1 << 31, api.ErrForm}, {1<<32 - 8, api.ErrForm}, {1<<32 - 1, api.ErrForm}} {
		tail := "IEND\xae\x42\x60\x82"
		splits(t, mark+be(c.n)+tail, c.e)
		splits(t, mark+raw("abcd", "x")+be(c.n)+tail, c.e)
		// A wrong type is known before the end of the chunk is missed.
		splits(t, mark+be(c.n)+"I-ND", api.ErrForm)
	}
	// The highest byte comes first.
	splits(t, mark+"\x00\x00\x00\x02IENDxx"+sumOf("IENDxx"), api.OK)
	splits(t, mark+"\x00\x00\x01\x00IEND"+strings.Repeat("x", 256)+sumOf("IEND"+strings.Repeat("x", 256)), api.OK)
	splits(t, mark+"\x02\x00\x00\x00IENDxx"+sumOf("IENDxx"), api.ErrCut)
}

// TestP17_1Types: each byte at each place of a type.
func TestP17_1Types(t *testing.T) {
	good := 0
	for i := range 4 {
		for c := range 256 {
			kind := []byte("Kind")
			kind[i] = byte(c)
			e, f := api.ErrForm, api.ErrArg
			if strings.Contains(letters, string(kind[i])) {
				e, f = api.OK, api.OK
				good++
			}
			splits(t, mark+raw(string(kind), "x")+raw("IEND", ""), e)
			joins(t, []api.Chunk{{Type: string(kind), Data: "x"}, {Type: "IEND"}}, f)
		}
	}
	if good != 4*52 {
		t.Errorf("%d are letters", good)
	}
	for _, kind := range []string{"", "a", "abc", "abcde", "IENDx", "IEN", "    ", "\x00\x00\x00\x00"} {
		joins(t, []api.Chunk{{Type: kind}, {Type: "IEND"}}, api.ErrArg)
		joins(t, []api.Chunk{{Type: kind}}, api.ErrArg)
	}
}

// TestP17_1Sum: the checksum is that of the type and the data, in this order, the highest byte first.
func TestP17_1Sum(t *testing.T) {
	for _, s := range []string{"IENDdata", "dataIEND", "data", "IEND", "\x00\x00\x00\x04IENDdata"} {
		e := api.ErrSum
		if s == "IENDdata" {
			e = api.OK
		}
		splits(t, mark+"\x00\x00\x00\x04IENDdata"+sumOf(s), e)
	}
	sum := []byte(sumOf("IEND"))
	slices.Reverse(sum)
	splits(t, mark+"\x00\x00\x00\x00IEND"+string(sum), api.ErrSum)
	// It is held against the chunk ahead of all that follows.
	bad := "\x00\x00\x00\x00IENDxxxx"
	splits(t, mark+bad+"behind", api.ErrSum)
	splits(t, mark+"\x00\x00\x00\x00abcdxxxx", api.ErrSum)
	splits(t, mark+"\x00\x00\x00\x00abcdxxxx"+"\xff\xff\xff\xff1234", api.ErrSum)
	splits(t, mark+raw("abcd", "")+"\xff\xff\xff\xff1234"+bad, api.ErrForm)
}

func TestP17_1Behind(t *testing.T) {
	for _, l := range lists() {
		for _, tail := range []string{"\x00", "x", raw("abcd", ""), raw("IEND", ""), mark, strings.Repeat("z", 500)} {
			splits(t, raws(l)+tail, api.ErrForm)
		}
	}
}

func TestP17_1JoinArguments(t *testing.T) {
	end, other := api.Chunk{Type: "IEND"}, api.Chunk{Type: "abcd", Data: "x"}
	for _, l := range [][]api.Chunk{nil, {}, {other}, {other, other}, {end, other}, {end, end}, {other, end, end}, {other, end, other}, {end, other, end}, {{Data: "x"}, end}, {other, {}}, {other, {Type: "iend"}}} {
		joins(t, l, api.ErrArg)
	}
	joins(t, []api.Chunk{other, end}, api.OK)
}

// long is a string of n bytes 0 that take memory only where they are looked at.
func long(t *testing.T, n int) string {
	t.Helper()
	b, err := syscall.Mmap(-1, 0, n, syscall.PROT_READ, syscall.MAP_ANON|syscall.MAP_PRIVATE)
	if err != nil {
		t.Skip(err)
	}
	t.Cleanup(func() { syscall.Munmap(b) })
	return unsafe.String(&b[0], n)
}

func TestP17_1JoinLength(t *testing.T) {
	s := long(t, 1<<31)
	joins(t, []api.Chunk{{Type: "abcd", Data: s}, {Type: "IEND"}}, api.ErrArg)
	joins(t, []api.Chunk{{Type: "IEND", Data: s}}, api.ErrArg)
}

// TestP17_1Changed: with some bytes changed, there is what the model returns.
func TestP17_1Changed(t *testing.T) {
	random := rand.New(rand.NewSource(1))
	seen := map[api.Errno]int{}
	for range 20000 {
		var l []api.Chunk
		for range random.Intn(4) {
			l = append(l, api.Chunk{Type: []string{"IEND", "abcd", "IDAT", "Z9zz"}[random.Intn(4)], Data: noise(random, random.Intn(5))})
		}
		s := raws(append(l, api.Chunk{Type: "IEND"}))
		if random.Intn(3) == 0 {
			b := []byte(s)
			b[random.Intn(len(b))] ^= 1 << random.Intn(8)
			s = string(b[:len(b)-random.Intn(2)*random.Intn(len(b))])
		}
		seen[sameSplit(t, s)]++
	}
	for _, e := range []api.Errno{api.OK, api.ErrCut, api.ErrForm, api.ErrSum} {
		if seen[e] < 1000 {
			t.Errorf("error %d: %d times", e, seen[e])
		}
	}
}

// TestP17_4Changed: a byte that does not belong to a length is detected, whatever it becomes.
func TestP17_4Changed(t *testing.T) {
	l := []api.Chunk{{Type: "IHDR", Data: "abc"}, {Type: "teXT"}, {Type: "IEND", Data: "x"}}
	s := raws(l)
	length := map[int]bool{}
	at := 8
	for _, c := range l {
		for i := range 4 {
			length[at+i] = true
		}
		at += 12 + len(c.Data)
	}
	for i := range len(s) {
		for c := range 256 {
			b := []byte(s)
			b[i] = byte(c)
			e := sameSplit(t, string(b))
			if e == api.OK && !length[i] && b[i] != s[i] {
				t.Errorf("byte %d as %d is not detected", i, c)
			}
		}
	}
}

// TestP17_4JoinedIsSplit, and what is split is joined again.
func TestP17_4JoinedIsSplit(t *testing.T) {
	random := rand.New(rand.NewSource(2))
	for range 2000 {
		var l []api.Chunk
		for range random.Intn(6) {
			kind := ""
			for range 4 {
				kind += string(letters[random.Intn(52)])
			}
			l = append(l, api.Chunk{Type: kind, Data: noise(random, random.Intn(300))})
		}
		l = append(l, api.Chunk{Type: "IEND", Data: noise(random, random.Intn(3))})
		s, e := Join(l)
		if s != raws(l) || e != api.OK {
			t.Fatalf("%.90q: %d", l, e)
		}
		if m, e := Split(s); !slices.Equal(m, l) || e != api.OK {
			t.Errorf("%.90q: %.90q, %d", l, m, e)
		}
	}
}

// inside tells whether the bytes of a lie in those of b.
func inside(a string, b string) bool {
	at, from := uintptr(unsafe.Pointer(unsafe.StringData(a))), uintptr(unsafe.Pointer(unsafe.StringData(b)))
	return a != "" && at >= from && at < from+uintptr(len(b))
}

// TestR5Memory: what is returned is new, and arguments stay as they are.
func TestR5Memory(t *testing.T) {
	l := lists()[3]
	before := slices.Clone(l)
	s, _ := Join(l)
	if !slices.Equal(l, before) {
		t.Errorf("%q", l)
	}
	for _, c := range l {
		if inside(s, c.Data) || inside(c.Data, s) {
			t.Error("Join hands out its argument")
		}
	}
	m, _ := Split(s)
	for _, c := range m {
		if inside(c.Type, s) || inside(c.Data, s) {
			t.Errorf("%q lies in the argument", c)
		}
	}
	m[0].Type = "xxxx"
	if again, e := Split(s); !slices.Equal(again, before) || e != api.OK { // R6
		t.Errorf("%q, %d", again, e)
	}
	if again, e := Join(l); again != s || e != api.OK {
		t.Errorf("%x, %d", again, e)
	}
}
