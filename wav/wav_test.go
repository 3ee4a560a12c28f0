package wav

import (
	"math/rand"
	"slices"
	"strings"
	"syscall"
	"testing"
	"unsafe"

	"mortise/api"
)

func splits(t *testing.T, s string, e api.Errno) {
	t.Helper()
	form, l, f := Split(s)
	if f != e || e != api.OK && (form != "" || l != nil) {
		t.Errorf("%.200q: %q, %.200q, %d, not %d", s, form, l, f, e)
	}
	sameSplit(t, s)
}

func joins(t *testing.T, form string, l []api.Chunk, e api.Errno) {
	t.Helper()
	want := ""
	if e == api.OK {
		want = raws(form, l)
	}
	if s, f := Join(form, l); s != want || f != e {
		t.Errorf("%q, %.200q: %.200q, %d, not %.200q, %d", form, l, s, f, want, e)
	}
}

// lists are of chunks that can be joined.
func lists() [][]api.Chunk {
	return [][]api.Chunk{
		nil,
		{{Type: "abcd"}},
		{{Type: "abcd", Data: "x"}},
		{{Type: "abcd", Data: "xy"}},
		{{Type: "RIFF", Data: "RIFF"}, {Type: "    ", Data: "\x00"}, {Type: "~~~~", Data: "\xff"}, {Type: "~~~~"}, {Type: "~~~~"}},
		{{Type: "fmt ", Data: "abc"}, {Type: "data", Data: strings.Repeat("\xff", 255)}, {Type: "data", Data: strings.Repeat("z", 70001)}},
	}
}

func TestP19_1SplitAndJoin(t *testing.T) {
	for _, form := range []string{"WAVE", "abcd", "    ", "~~~~", "RIFF"} {
		for _, l := range lists() {
			joins(t, form, l, api.OK)
			got, m, e := Split(raws(form, l))
			if got != form || !slices.Equal(m, l) || e != api.OK {
				t.Errorf("%q, %.200q: %q, %.200q, %d", form, l, got, m, e)
			}
		}
	}
	// The lowest byte comes first, and the byte behind Data is not counted by their length, but by that of the file.
	long := strings.Repeat("z", 0x10203)
	if s, e := Join("form", []api.Chunk{{Type: "abcd", Data: "x"}, {Type: "efgh", Data: long}}); s != "RIFF\x1a\x02\x01\x00formabcd\x01\x00\x00\x00x\x00efgh\x03\x02\x01\x00"+long+"\x00" || e != api.OK {
		t.Errorf("%.60q, %d", s, e)
	}
}

// TestP19_1Cut: at each place, also with a number of bytes that says so.
func TestP19_1Cut(t *testing.T) {
	for _, l := range lists() {
		s := raws("form", l)
		for cut := 0; cut < len(s); cut += 1 + len(s)/1000 {
			splits(t, s[:cut], api.ErrCut)
		}
		// Where a chunk ends, the file may end.
		ends := map[int]bool{12: true}
		at := 12
		for _, c := range l {
			at += len(raw(c.Type, c.Data))
			ends[at] = true
		}
		for cut := 12; cut < min(len(s), 400); cut++ {
			e := api.ErrCut
			if ends[cut] {
				e = api.OK
			}
			splits(t, riff(s[8:cut]), e)
		}
	}
	// That fewer than twelve bytes are there is known first.
	splits(t, "XXXX", api.ErrCut)
	splits(t, "RIFX\x00\x00\x00\x00abc", api.ErrCut)
	splits(t, "RIFF\x00\x00\x00\x00\x01\x01\x01", api.ErrCut)
}

// TestP19_1Start: each bit of the first bytes counts.
func TestP19_1Start(t *testing.T) {
	for _, l := range lists()[:4] {
		s := raws("form", l)
		for i := range 4 {
			for bit := range 8 {
				bad := change(s, i, octet(int(s[i])^1<<bit))
				splits(t, bad, api.ErrForm)
				// That is known before the number of bytes is held against what follows.
				splits(t, change(bad, 4, "\xff"), api.ErrForm)
			}
		}
	}
	splits(t, "XXXX\x04\x00\x00\x00form", api.ErrForm)
	splits(t, "RIFX\x00\x00\x00\x04form", api.ErrForm)
	splits(t, "riff\x04\x00\x00\x00form", api.ErrForm)
	splits(t, "x"+raws("form", nil), api.ErrForm)
}

func TestP19_1Number(t *testing.T) {
	for _, l := range lists()[:5] {
		s := raws("form", l)
		right := len(s) - 8
		for n := range 600 {
			e := api.OK
			if n > right {
				e = api.ErrCut
			}
			if n < right {
				e = api.ErrForm
			}
			splits(t, change(s, 4, le32(n)), e)
		}
		for _, n := range []int{1 << 24, 1<<31 - 1, 1 << 31, 1<<32 - 8, 1<<32 - 1} {
			splits(t, change(s, 4, le32(n)), api.ErrCut)
		}
		for _, tail := range []string{"z", "\x00", "abcd\x00\x00\x00\x00"} {
			splits(t, s+tail, api.ErrForm)
		}
		// That is known before the chunks are looked at.
		splits(t, change(s, 4, le32(right+1))+"\x00\x00", api.ErrForm)
		splits(t, change(s, 4, le32(right+3))+"\x00\x00", api.ErrCut)
	}
}

// TestP19_1Types: each byte at each place of a form, and of a Type.
func TestP19_1Types(t *testing.T) {
	good := 0
	for i := range 4 {
		for c := range 256 {
			kind := change("Kind", i, octet(c))
			e, f := api.ErrForm, api.ErrArg
			if c >= 32 && c <= 126 {
				e, f = api.OK, api.OK
				good++
			}
			x := api.Chunk{Type: "abcd", Data: "x"}
			for _, l := range [][]api.Chunk{nil, {x}} {
				splits(t, raws(kind, l), e)
				joins(t, kind, l, f)
			}
			for _, l := range [][]api.Chunk{{{Type: kind}}, {{Type: kind, Data: "x"}, x}, {x, {Type: kind, Data: "xy"}}} {
				splits(t, raws("form", l), e)
				joins(t, "form", l, f)
			}
			// A form that is none is known before a wrong number of bytes, and a Type that is none before cut Data.
			if e == api.ErrForm {
				splits(t, change(raws(kind, nil), 4, "\x05"), e)
				splits(t, riff("form"+kind+"\xff\xff\xff\xff"), e)
				splits(t, riff("form"+kind+"\x00\x00\x00"), api.ErrCut)
			}
		}
	}
	if good != 4*95 {
		t.Errorf("%d are good", good)
	}
}

func TestP19_1JoinArguments(t *testing.T) {
	x := api.Chunk{Type: "abcd", Data: "x"}
	for _, kind := range []string{"", "a", "abc", "abcde", "fmt", "WAVE ", zeros(4), "abc\x00", "\xc3\xa4bc"} {
		joins(t, kind, nil, api.ErrArg)
		joins(t, kind, []api.Chunk{x}, api.ErrArg)
		for _, l := range [][]api.Chunk{{{Type: kind}}, {x, {Type: kind}}, {{Type: kind}, x}, {x, {Type: kind, Data: "y"}, x}} {
			joins(t, "form", l, api.ErrArg)
		}
	}
	joins(t, "form", []api.Chunk{}, api.OK)
}

// TestP19_1Data: lengths that are more than what follows, and the byte behind them.
func TestP19_1Data(t *testing.T) {
	for n := range 8 {
		for length := range 20 {
			// So many bytes are announced, and n are there, of which the one behind Data is 0.
			data := strings.Repeat("\x00", n)
			rest := "form" + "abcd" + le32(length) + data
			e := api.OK
			if length+length%2 > n {
				e = api.ErrCut
			} else if left := n - length - length%2; left > 0 {
				e = api.ErrCut // a chunk begins there, with fewer than eight bytes
			}
			splits(t, riff(rest), e)
		}
		for _, length := range []int{1 << 16, 1<<31 - 1, 1 << 31, 1<<32 - 2, 1<<32 - 1} {
			splits(t, riff("formabcd"+le32(length)+zeros(n)), api.ErrCut)
			splits(t, riff("form"+raw("abcd", "x")+"abcd"+le32(length)+zeros(n)), api.ErrCut)
		}
	}
	for c := range 256 {
		e := api.ErrForm
		if c == 0 {
			e = api.OK
		}
		splits(t, riff("formabcd\x01\x00\x00\x00z"+octet(c)), e)
		splits(t, riff("formabcd\x03\x00\x00\x00xyz"+octet(c)+raw("efgh", "")), e)
		splits(t, riff("formabcd\x02\x00\x00\x00z"+octet(c)), api.OK)
		// It is looked at before what follows.
		splits(t, riff("formabcd\x01\x00\x00\x00z"+octet(c)+"efgh"), map[bool]api.Errno{true: api.ErrCut, false: api.ErrForm}[c == 0])
	}
	// Chunk by chunk: what is wrong with the first one counts.
	splits(t, riff("formabcd\x01\x00\x00\x00zz"+"abcd\x05\x00\x00\x00"), api.ErrForm)
	splits(t, riff("formabcd\x00\x00\x00\x00"+"abcd\x05\x00\x00\x00"), api.ErrCut)
	splits(t, riff("formabcd\x05\x00\x00\x00"+"\x01\x01"), api.ErrCut)
}

// long is a string of n bytes 0 that take memory only where they are looked at.
func long(t *testing.T, n int) string {
	t.Helper()
	b, err := syscall.Mmap(-1, 0, n, syscall.PROT_READ, syscall.MAP_ANON|syscall.MAP_PRIVATE|syscall.MAP_NORESERVE)
	if err != nil {
		t.Skip(err)
	}
	t.Cleanup(func() { syscall.Munmap(b) })
	return unsafe.String(&b[0], n)
}

// TestP19_1JoinLength: a file may have 2^31 - 2 bytes, as all have an even number of them.
func TestP19_1JoinLength(t *testing.T) {
	const most = 1<<31 - 2 - 12 // without the file's head
	s := long(t, 1<<33)
	chunks := func(lengths ...int) []api.Chunk {
		var l []api.Chunk
		for _, n := range lengths {
			l = append(l, api.Chunk{Type: "abcd", Data: s[:n]})
		}
		return l
	}
	for _, lengths := range [][]int{{most - 8}, {most - 9}, {most - 16, 0}, {0, most - 17}, {1, most - 18}, {most/2 - 9, most/2 - 9}} {
		if n, ok := sizeOf(chunks(lengths...)); !ok || n > 1<<31-2 {
			t.Errorf("%d: %d, %v", lengths, n, ok)
		}
	}
	for _, lengths := range [][]int{{most - 7}, {most - 6}, {most - 15, 0}, {0, most - 15}, {1, most - 17}, {1, 1, most - 26}, {most/2 - 8, most/2 - 8}, {1<<31 - 1}, {1 << 31}, {1<<32 - 20}, {1 << 32}, {1 << 33, 1 << 33}, {most - 8, 1 << 33}, {1 << 33, 0}} {
		joins(t, "form", chunks(lengths...), api.ErrArg)
		if m, e := Write(api.Sound{Channels: 1, Rate: 1, Bits: 8, More: chunks(lengths...)}); m != "" || e != api.ErrArg { // P19.3
			t.Errorf("%d: %d bytes, %d", lengths, len(m), e)
		}
	}
	// The fmt, and the heads of both chunks, count as well.
	for _, n := range []int{1<<31 - 45, 1<<31 - 44, 1 << 31, 1<<33 - 1, 1 << 33} {
		if m, e := Write(api.Sound{Channels: 1, Rate: 1, Bits: 8, Frames: s[:n]}); m != "" || e != api.ErrArg {
			t.Errorf("%d: %d bytes, %d", n, len(m), e)
		}
	}
	if n, ok := sizeOf([]api.Chunk{{Type: "fmt ", Data: s[:16]}, {Type: "data", Data: s[:1<<31-46]}}); n != 1<<31-2 || !ok {
		t.Errorf("%d, %v", n, ok)
	}
	if n, ok := sizeOf(nil); n != 12 || !ok {
		t.Errorf("%d, %v", n, ok)
	}
}

// TestP19_1Changed: with some bytes changed, there is what the model returns.
func TestP19_1Changed(t *testing.T) {
	random := rand.New(rand.NewSource(1))
	seen := map[api.Errno]int{}
	for range 30000 {
		var l []api.Chunk
		for range random.Intn(4) {
			l = append(l, randomChunk(random))
		}
		rest := raws(randomType(random), l)[8:]
		for range random.Intn(3) {
			i := random.Intn(len(rest))
			rest = change(rest, i, octet([]int{0, 1, 2, 31, 32, 126, 127, 255, random.Intn(256)}[random.Intn(9)]))
		}
		if random.Intn(4) == 0 {
			rest = rest[:4+random.Intn(len(rest)-3)]
		}
		s := riff(rest)
		if random.Intn(10) == 0 {
			s = change(s, random.Intn(12), octet(random.Intn(256)))
		}
		seen[sameSplit(t, s)]++
	}
	for _, e := range []api.Errno{api.OK, api.ErrCut, api.ErrForm} {
		if seen[e] < 3000 {
			t.Errorf("error %d: %d times", e, seen[e])
		}
	}
}

// TestP19_1EveryByte of a file, with each value.
func TestP19_1EveryByte(t *testing.T) {
	for _, l := range lists()[:5] {
		s := raws("form", l)
		for i := range len(s) {
			for c := range 256 {
				sameSplit(t, change(s, i, octet(c)))
			}
		}
	}
}

// TestP19_4JoinedIsSplit: whatever types and Data there are.
func TestP19_4JoinedIsSplit(t *testing.T) {
	random := rand.New(rand.NewSource(2))
	for range 3000 {
		var l []api.Chunk
		for range random.Intn(6) {
			l = append(l, randomChunk(random))
		}
		form := randomType(random)
		s, e := Join(form, l)
		if s != raws(form, l) || e != api.OK {
			t.Fatalf("%q, %q: %d", form, l, e)
		}
		if got, m, e := Split(s); got != form || !slices.Equal(m, l) || e != api.OK {
			t.Errorf("%q, %q: %q, %q, %d", form, l, got, m, e)
		}
	}
}

// inside tells whether the bytes of a lie in those of b.
func inside(a string, b string) bool {
	at, from := uintptr(unsafe.Pointer(unsafe.StringData(a))), uintptr(unsafe.Pointer(unsafe.StringData(b)))
	return a != "" && at >= from && at < from+uintptr(len(b))
}

// TestR5Memory: what is returned is new, and arguments stay as they are.
func TestR5Memory(t *testing.T) {
	l := lists()[4]
	before := slices.Clone(l)
	s, _ := Join("form", l)
	if !slices.Equal(l, before) {
		t.Errorf("%q", l)
	}
	form, m, _ := Split(s)
	if inside(form, s) {
		t.Error("the form lies in the argument")
	}
	for _, c := range m {
		if inside(c.Type, s) || inside(c.Data, s) {
			t.Errorf("%q lies in the argument", c)
		}
	}
	m[0].Type = "xxxx"
	if got, again, e := Split(s); got != "form" || !slices.Equal(again, before) || e != api.OK { // R6
		t.Errorf("%q, %d", again, e)
	}
	if again, e := Join("form", l); again != s || e != api.OK {
		t.Errorf("%q, %d", again, e)
	}
}
