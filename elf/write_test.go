package elf

import (
	"math"
	"math/rand"
	"slices"
	"strings"
	"testing"
	"unsafe"

	other "debug/elf"

	"mortise/api"
)

func writes(t *testing.T, m api.Elf, e api.Errno) {
	t.Helper()
	if _, f := sameWrite(t, m); f != e {
		t.Errorf("%.900v: %d, not %d", m, f, e)
	}
}

func errorOf(ok bool) api.Errno {
	if ok {
		return api.OK
	}
	return api.ErrArg
}

func zeros(n int) string { return strings.Repeat("\x00", n) }

func TestP20_2Bytes(t *testing.T) {
	m := api.Elf{Type: 0x201, Machine: 0x403, Entry: 0xc0b0a0908070605, Flags: 0x100f0e0d,
		Segments: []api.Segment{{Type: 0x14131211, Flags: 0x18171615, Offset: 3, Vaddr: 0x201f1e1d1c1b1a19, Paddr: 0x2827262524232221, Filesz: 5, Memsz: 0x302f2e2d2c2b2a29, Align: 0x3837363534333231}},
		Sections: []api.Section{{Name: "c", Type: 0x3c3b3a39, Flags: 0x44434241403f3e3d, Addr: 0x4c4b4a4948474645, Data: "123456789", Link: 0x504f4e4d, Info: 0x54535251, Align: 0x5c5b5a5958575655, Each: 0x64636261605f5e5d}, {Type: 8, Size: 1 << 40}, {Name: "", Type: 1, Data: "z"}}}
	s, e := sameWrite(t, m)
	want := start + "\x01\x02\x03\x04\x01\x00\x00\x00\x05\x06\x07\x08\x09\x0a\x0b\x0c" + le64(64) + le64(168) + "\x0d\x0e\x0f\x10\x40\x00\x38\x00\x01\x00\x40\x00\x05\x00\x04\x00" +
		"\x11\x12\x13\x14\x15\x16\x17\x18" + le64(3) + "\x19\x1a\x1b\x1c\x1d\x1e\x1f\x20\x21\x22\x23\x24\x25\x26\x27\x28" + le64(5) + "\x29\x2a\x2b\x2c\x2d\x2e\x2f\x30\x31\x32\x33\x34\x35\x36\x37\x38" +
		"123456789" + zeros(7) + "z" + zeros(7) + "\x00c\x00\x00\x00.shstrtab\x00" + zeros(1) + zeros(64) +
		le32(1) + "\x39\x3a\x3b\x3c\x3d\x3e\x3f\x40\x41\x42\x43\x44\x45\x46\x47\x48\x49\x4a\x4b\x4c" + le64(120) + le64(9) + "\x4d\x4e\x4f\x50\x51\x52\x53\x54\x55\x56\x57\x58\x59\x5a\x5b\x5c\x5d\x5e\x5f\x60\x61\x62\x63\x64" +
		le32(3) + le32(8) + zeros(24) + le64(1<<40) + zeros(24) +
		le32(4) + le32(1) + zeros(16) + le64(136) + le64(1) + zeros(24) +
		le32(5) + le32(3) + zeros(16) + le64(144) + le64(15) + zeros(8) + le64(1) + zeros(8)
	want = change(want, 40, le64(160))
	if s != want || e != api.OK {
		t.Errorf("%q, %d, not %q", s, e, want)
	}
}

// TestP20_2Data: each begins at the next multiple of 8, and empty ones nowhere.
func TestP20_2Data(t *testing.T) {
	for n := range 20 {
		for k := range 20 {
			l := []api.Section{{Name: "a", Type: 1, Data: strings.Repeat("x", n)}, {Name: "none", Type: 8, Size: n}, {Name: "b", Type: 1, Data: strings.Repeat("y", k)}}
			for _, segments := range [][]api.Segment{nil, make([]api.Segment, 3)} {
				s, e := sameWrite(t, api.Elf{Segments: segments, Sections: l})
				up := func(n int) int { return (n + 7) / 8 * 8 }
				a := 64 + 56*len(segments)
				b := a + up(n)
				if e != api.OK || s[a:a+n] != l[0].Data || s[b:b+k] != l[2].Data || strings.Trim(s[a+n:b], "\x00") != "" || len(s) != b+up(k)+up(1+2+5+2+10)+5*64 {
					t.Errorf("%d and %d bytes: %q, %d", n, k, s, e)
				}
			}
		}
	}
}

// TestP20_2Numbers: each that a model may have, and those beside them.
func TestP20_2Numbers(t *testing.T) {
	for _, n := range []int{0, 1, 255, 256, 65535, 65536, 1 << 31, 1<<32 - 1, 1 << 32, 1<<40 - 1, 1 << 40, 1<<40 + 1, 1 << 48, 1<<62 + 1, math.MaxInt, -1, -65536, math.MinInt} {
		half, word, amount := errorOf(n >= 0 && n < 1<<16), errorOf(n >= 0 && n < 1<<32), errorOf(n >= 0 && n <= 1<<40)
		writes(t, api.Elf{Type: n}, half)
		writes(t, api.Elf{Machine: n}, half)
		writes(t, api.Elf{Flags: n}, word)
		writes(t, api.Elf{Entry: uint64(n)}, api.OK)
		for _, l := range [][]api.Segment{nil, {{Type: 1}}} {
			add := func(x api.Segment, e api.Errno) {
				t.Helper()
				writes(t, api.Elf{Segments: append(slices.Clone(l), x)}, e)
				writes(t, api.Elf{Segments: append([]api.Segment{x}, l...)}, e)
			}
			add(api.Segment{Type: n}, word)
			add(api.Segment{Flags: n}, word)
			add(api.Segment{Offset: n}, amount)
			add(api.Segment{Filesz: n}, amount)
			add(api.Segment{Vaddr: uint64(n), Paddr: ^uint64(n), Memsz: uint64(n) / 3, Align: uint64(n) * 5}, api.OK)
		}
		for _, l := range [][]api.Section{nil, {{Type: 1, Data: "x"}}} {
			add := func(x api.Section, e api.Errno) {
				t.Helper()
				writes(t, api.Elf{Sections: append(slices.Clone(l), x)}, e)
				writes(t, api.Elf{Sections: append([]api.Section{x}, l...)}, e)
			}
			add(api.Section{Type: n}, word)
			add(api.Section{Link: n}, word)
			add(api.Section{Info: n}, word)
			add(api.Section{Type: 8, Size: n}, amount)
			add(api.Section{Type: 7, Size: n}, errorOf(n == 0))
			add(api.Section{Size: n}, errorOf(n == 0))
			add(api.Section{Flags: uint64(n), Addr: ^uint64(n), Align: uint64(n) / 3, Each: uint64(n) * 5}, api.OK)
		}
	}
	for kind := range 20 {
		writes(t, api.Elf{Sections: []api.Section{{Type: kind, Data: "x"}}}, errorOf(kind != 8))
		writes(t, api.Elf{Sections: []api.Section{{Type: kind, Size: 1}}}, errorOf(kind == 8))
		writes(t, api.Elf{Sections: []api.Section{{Type: kind, Data: "x", Size: 1}}}, api.ErrArg)
		writes(t, api.Elf{Sections: []api.Section{{Type: kind}}}, api.OK)
	}
}

// TestP20_2Names: of any bytes but 0, and of 200 bytes at most.
func TestP20_2Names(t *testing.T) {
	for n := range 260 {
		writes(t, api.Elf{Sections: []api.Section{{Name: strings.Repeat("n", n)}, {Name: "x"}}}, errorOf(n <= 200))
	}
	for c := range 256 {
		for _, name := range []string{octet(c), "ab" + octet(c), octet(c) + "ab", "a" + octet(c) + "b"} {
			writes(t, api.Elf{Sections: []api.Section{{Name: name}}}, errorOf(c != 0))
		}
	}
	// Names that are there several times are stored as often, as are those that are as the last one's, or empty.
	m := api.Elf{Sections: []api.Section{{Name: "a"}, {Name: ""}, {Name: "a"}, {Name: ".shstrtab", Type: 3, Data: "x"}, {Name: ""}}}
	s, e := sameWrite(t, m)
	if names := "\x00a\x00\x00a\x00.shstrtab\x00\x00.shstrtab\x00"; e != api.OK || s[72:72+len(names)] != names {
		t.Errorf("%q, %d", s, e)
	}
	for i, n := range []int{0, 1, 3, 4, 6, 16, 17} {
		if at := 72 + 32 + 64*i; s[at:at+4] != le32(n) {
			t.Errorf("name %d: %q", i, s[at:at+4])
		}
	}
}

func TestP20_2Many(t *testing.T) {
	for _, n := range []int{998, 999, 1000, 1001, 1002, 65536, 65537} {
		writes(t, api.Elf{Segments: make([]api.Segment, n)}, errorOf(n <= 1000))
		writes(t, api.Elf{Sections: make([]api.Section, n)}, errorOf(n <= 1000))
	}
	writes(t, api.Elf{Segments: make([]api.Segment, 1000), Sections: make([]api.Section, 1000)}, api.OK)
	writes(t, api.Elf{Segments: make([]api.Segment, 1000), Sections: make([]api.Section, 1001)}, api.ErrArg)
	writes(t, api.Elf{Segments: []api.Segment{}, Sections: []api.Section{}}, api.OK)
}

// TestP20_3WrittenIsRead, if all bytes of segments are in it.
func TestP20_3WrittenIsRead(t *testing.T) {
	random := rand.New(rand.NewSource(4))
	seen := map[api.Errno]int{}
	for range 5000 {
		m := randomModel(random)
		s, e := sameWrite(t, m)
		if e != api.OK {
			t.Errorf("%v: %d", m, e)
		}
		_, e = Read(s)
		seen[e]++
	}
	if seen[api.OK] < 1000 || seen[api.ErrCut] < 200 {
		t.Errorf("%v", seen)
	}
	// At the end of the file, and beyond.
	for n := range 400 {
		x := api.Segment{Offset: 200, Filesz: n}
		s, _ := sameWrite(t, api.Elf{Segments: []api.Segment{x}})
		e := api.OK
		if 200+n > len(s) {
			e = api.ErrCut
		}
		if _, f := Read(s); f != e {
			t.Errorf("%d bytes: %d, not %d", n, f, e)
		}
	}
}

// TestP20_2OtherReader reads the same.
func TestP20_2OtherReader(t *testing.T) {
	random := rand.New(rand.NewSource(5))
	for range 1000 {
		m := randomModel(random)
		for i := range m.Sections {
			// That reader looks into compressed Data.
			m.Sections[i].Flags &^= uint64(other.SHF_COMPRESSED)
		}
		s, _ := Write(m)
		f, err := other.NewFile(strings.NewReader(s))
		if err != nil {
			t.Fatalf("%v: %v", m, err)
		}
		if int(f.Type) != m.Type || int(f.Machine) != m.Machine || f.Entry != m.Entry || len(f.Progs) != len(m.Segments) || len(f.Sections) != len(m.Sections)+2 {
			t.Errorf("%v: %v", m, f.FileHeader)
		}
		for i, x := range m.Segments {
			if got, want := f.Progs[i].ProgHeader, prog(x); got.Off != want.Off || got.Filesz != want.Filesz || uint32(got.Type) != want.Type || uint32(got.Flags) != want.Flags || got.Vaddr != want.Vaddr || got.Paddr != want.Paddr || got.Memsz != want.Memsz || got.Align != want.Align {
				t.Errorf("%v: %v", x, got)
			}
		}
		for i, x := range m.Sections {
			got := f.Sections[i+1]
			data := ""
			if x.Type != 8 {
				b, err := got.Data()
				if err != nil {
					t.Errorf("%v: %v", x, err)
				}
				data = string(b)
			}
			if got.Name != x.Name || int(got.Type) != x.Type || uint32(got.Flags) != uint32(x.Flags) || got.Addr != x.Addr || int(got.Link) != x.Link || int(got.Info) != x.Info || got.Addralign != x.Align || got.Entsize != x.Each || data != x.Data || x.Type == 8 && got.Size != uint64(x.Size) {
				t.Errorf("%v: %v, %q", x, got.SectionHeader, data)
			}
		}
	}
}

// lies tells whether the bytes of a lie in those of b.
func lies(a string, b string) bool {
	at, from := uintptr(unsafe.Pointer(unsafe.StringData(a))), uintptr(unsafe.Pointer(unsafe.StringData(b)))
	return a != "" && at >= from && at < from+uintptr(len(b))
}

// TestR5Memory: what is returned is new, and arguments stay as they are.
func TestR5Memory(t *testing.T) {
	m, before := sample(), sample()
	room := slices.Grow(m.Sections, 5)
	m.Sections = room
	s, _ := Write(m)
	if !sameElf(m, before) || room[:len(room)+1][len(room)] != (api.Section{}) {
		t.Errorf("%v", m)
	}
	for range 2 {
		n, e := Read(s)
		if !sameElf(n, before) || e != api.OK { // R6
			t.Fatalf("%v, %d", n, e)
		}
		for i, x := range n.Sections {
			if lies(x.Name, s) || lies(x.Data, s) {
				t.Errorf("section %d lies in the argument", i)
			}
			n.Sections[i].Name = "changed"
		}
		n.Segments[0].Type = 99
	}
	if again, e := Write(m); again != s || e != api.OK {
		t.Errorf("%d bytes, %d", len(again), e)
	}
}

func TestExamplesOfTheChapter(t *testing.T) {
	s, e := sameWrite(t, api.Elf{})
	if len(s) != 208 || e != api.OK || s[64:80] != "\x00.shstrtab\x00"+zeros(5) {
		t.Errorf("%q, %d", s, e)
	}
}
