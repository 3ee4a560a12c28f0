package elf

import (
	"bytes"
	"math/rand"
	"os"
	"strings"
	"syscall"
	"testing"
	"unsafe"

	other "debug/elf"

	"mortise/api"
)

func reads(t *testing.T, s string, e api.Errno) {
	t.Helper()
	if m, f := Read(s); f != e {
		t.Errorf("%.900q: %.300v, %d, not %d", s, m, f, e)
	}
	sameRead(t, s)
}

// sample is a valid model, all of whose segments are in its file.
func sample() api.Elf {
	return api.Elf{Type: 2, Machine: 62, Entry: 0x401000, Flags: 7,
		Segments: []api.Segment{{Type: 1, Flags: 5, Offset: 64, Vaddr: 0x400000, Paddr: 0x500000, Filesz: 112, Memsz: 999, Align: 4096}, {Type: 6}},
		Sections: []api.Section{{Name: ".text", Type: 1, Flags: 6, Addr: 0x401000, Data: "abc", Align: 16}, {Name: ".bss", Type: 8, Flags: 3, Size: 77}, {Type: 1, Link: 1, Info: 2, Each: 24}, {Name: "data", Type: 3, Data: "12345678"}}}
}

// Where the parts of the sample's file are.
const (
	segmentsAt = 64
	dataAt     = 64 + 2*56 // "abc", and bytes 0, and "12345678"
	namesAt    = dataAt + 16
	sectionsAt = namesAt + 32
	lastAt     = sectionsAt + 5*64
	sampleSize = lastAt + 64
)

func sampleFile(t *testing.T) string {
	t.Helper()
	s, e := sameWrite(t, sample())
	if e != api.OK || len(s) != sampleSize || s[namesAt:sectionsAt] != "\x00.text\x00.bss\x00\x00data\x00.shstrtab\x00\x00\x00\x00\x00" {
		t.Fatalf("%d bytes, %d", len(s), e)
	}
	return s
}

func TestP20_1Fields(t *testing.T) {
	// All bytes of all numbers, the lowest one first.
	h := start + "\x01\x02\x03\x04\x01\x00\x00\x00\x05\x06\x07\x08\x09\x0a\x0b\x0c" + le64(64) + le64(120) + "\x0d\x0e\x0f\x10\x40\x00\x38\x00\x01\x00\x40\x00\x04\x00\x03\x00"
	segment := "\x11\x12\x13\x14\x15\x16\x17\x18" + le64(3) + "\x19\x1a\x1b\x1c\x1d\x1e\x1f\x20\x21\x22\x23\x24\x25\x26\x27\x28" + le64(5) + "\x29\x2a\x2b\x2c\x2d\x2e\x2f\x30\x31\x32\x33\x34\x35\x36\x37\x38"
	one := le32(2) + "\x39\x3a\x3b\x3c\x3d\x3e\x3f\x40\x41\x42\x43\x44\x45\x46\x47\x48\x49\x4a\x4b\x4c" + le64(1) + le64(3) + "\x4d\x4e\x4f\x50\x51\x52\x53\x54\x55\x56\x57\x58\x59\x5a\x5b\x5c\x5d\x5e\x5f\x60\x61\x62\x63\x64"
	none := le32(0) + "\x08\x00\x00\x00" + strings.Repeat("\x00", 16) + le64(1<<40) + "\xff\xff\xff\xff\xff\x00\x00\x00" + strings.Repeat("\x00", 24)
	last := le32(3) + "\x03\x00\x00\x00" + strings.Repeat("\xff", 16) + le64(376) + le64(13) + strings.Repeat("\xff", 24)
	s := h + segment + strings.Repeat("\x00", 64) + one + none + last + "abc.shstrtab\x00"
	want := api.Elf{Type: 0x201, Machine: 0x403, Entry: 0xc0b0a0908070605, Flags: 0x100f0e0d,
		Segments: []api.Segment{{Type: 0x14131211, Flags: 0x18171615, Offset: 3, Vaddr: 0x201f1e1d1c1b1a19, Paddr: 0x2827262524232221, Filesz: 5, Memsz: 0x302f2e2d2c2b2a29, Align: 0x3837363534333231}},
		Sections: []api.Section{{Name: "c.shstrtab", Type: 0x3c3b3a39, Flags: 0x44434241403f3e3d, Addr: 0x4c4b4a4948474645, Data: "ELF", Link: 0x504f4e4d, Info: 0x54535251, Align: 0x5c5b5a5958575655, Each: 0x64636261605f5e5d}, {Name: "abc.shstrtab", Type: 8, Size: 1<<40 - 1}}}
	if m, e := Read(s); !sameElf(m, want) || e != api.OK {
		t.Errorf("%v, %d, not %v", m, e, want)
	}
	sameRead(t, s)
}

// TestP20_1Cut: at each place of a file that ends with a table, and of one that ends with Data.
func TestP20_1Cut(t *testing.T) {
	s := sampleFile(t)
	for n := range len(s) {
		reads(t, s[:n], api.ErrCut)
	}
	reads(t, s, api.OK)
	reads(t, s+"more", api.OK)
	for n := range 64 {
		reads(t, strings.Repeat("x", n), api.ErrCut)
	}
	reads(t, strings.Repeat("x", 64), api.ErrForm)
}

// TestP20_1Start: each byte of the first sixteen with each value.
func TestP20_1Start(t *testing.T) {
	s := sampleFile(t)
	for i := range 16 {
		for c := range 256 {
			e := api.ErrForm
			if byte(c) == s[i] {
				e = api.OK
			}
			reads(t, change(s, i, octet(c)), e)
			// That is known before the headers are missed.
			if e != api.OK {
				reads(t, change(s, i, octet(c))[:64], e)
			}
		}
	}
}

// TestP20_1Numbers of the head, of which only some may be different.
func TestP20_1Numbers(t *testing.T) {
	s := sampleFile(t)
	for at := 16; at < 64; at++ {
		fixed := at >= 20 && at < 24 || at >= 52 && at < 56 || at >= 58 && at < 60
		free := at < 20 || at >= 24 && at < 32 || at >= 48 && at < 52
		for c := range 256 {
			e := sameRead(t, change(s, at, octet(c)))
			if fixed && e != api.ErrForm && byte(c) != s[at] || free && e != api.OK {
				t.Errorf("byte %d as %d: %d", at, c, e)
			}
		}
	}
}

// TestP20_1Counts: how many segments and sections there are, and which of them has the names.
func TestP20_1Counts(t *testing.T) {
	s := sampleFile(t)
	counts := []int{0, 1, 2, 3, 4, 5, 6, 7, 100, 999, 1000, 1001, 1002, 1003, 1 << 15, 65534, 65535}
	for _, n := range counts {
		for _, k := range counts {
			bad := change(s, 60, le16(n)+le16(k))
			switch {
			case n == 6 && k == 5:
				reads(t, bad, api.OK)
			case k != n-1 || n < 2 || n > 1002:
				reads(t, bad, api.ErrForm)
			case n > 6:
				reads(t, bad, api.ErrCut)
			default:
				reads(t, bad, api.ErrForm) // another section is the last one
			}
		}
		bad := change(s, 56, le16(n))
		switch {
		case n <= 2:
			reads(t, bad, api.OK)
		case n > 1000:
			reads(t, bad, api.ErrForm)
		case n > 100:
			reads(t, bad, api.ErrCut)
		default:
			sameRead(t, bad)
		}
	}
}

// TestP20_1Many: as many segments and sections as there may be, and one more.
func TestP20_1Many(t *testing.T) {
	for _, c := range []struct {
		segments int
		sections int
		e        api.Errno
	}{{0, 2, api.OK}, {1000, 1002, api.OK}, {1001, 2, api.ErrForm}, {0, 1003, api.ErrForm}, {1000, 2, api.OK}, {65535, 2, api.ErrForm}, {0, 65535, api.ErrForm}, {1, 1002, api.OK}, {1, 1, api.ErrForm}, {1, 0, api.ErrForm}} {
		names := ".shstrtab\x00"
		at := 64 + 56*c.segments
		sections := make([]other.Section64, c.sections)
		for i := range sections {
			if i > 0 {
				sections[i] = other.Section64{Type: 3, Off: uint64(at), Size: uint64(len(names))}
			}
		}
		s := stored(heading(api.Elf{}, 64, c.segments, at+len(names), c.sections), make([]other.Prog64, c.segments)) + names + stored(sections)
		reads(t, s, c.e)
		if m, e := Read(s); e == api.OK && (len(m.Segments) != c.segments || len(m.Sections) != c.sections-2) {
			t.Errorf("%d segments, %d sections", len(m.Segments), len(m.Sections))
		}
	}
}

// huge are offsets and lengths at which something might wrap around.
func huge() []uint64 {
	return []uint64{1 << 40, 1<<40 + 1, 1 << 32, 1 << 62, 1<<62 + 1, 1<<63 - 64, 1<<63 - 1, 1 << 63, 1<<63 + 64, ^uint64(0) - 63, ^uint64(0) - 8, ^uint64(0)}
}

// TestP20_1Tables: where the headers are.
func TestP20_1Tables(t *testing.T) {
	s := sampleFile(t)
	for _, n := range huge() {
		reads(t, change(s, 32, le64(n)), api.ErrCut)
		reads(t, change(s, 40, le64(n)), api.ErrCut)
		// Without segments, it doesn't matter.
		reads(t, change(change(s, 56, le16(0)), 32, le64(n)), api.OK)
	}
	for n := range sampleSize + 100 {
		sameRead(t, change(s, 32, le64(uint64(n))))
		sameRead(t, change(s, 40, le64(uint64(n))))
		if n > sampleSize-2*56 {
			reads(t, change(s, 32, le64(uint64(n))), api.ErrCut)
		}
		if n > sectionsAt {
			reads(t, change(s, 40, le64(uint64(n))), api.ErrCut)
		}
		reads(t, change(change(s, 56, le16(0)), 32, le64(uint64(n))), api.OK)
	}
	// The segments' headers may be the last bytes.
	moved := change(s+s[64:64+112], 32, le64(sampleSize))
	reads(t, moved, api.OK)
	reads(t, moved[:len(moved)-1], api.ErrCut)
	// Both may be anywhere, and with bytes ahead of them that are no multiple of 8.
	moved = change(change(s+"xyz"+s[64:64+112]+"z"+s[sectionsAt:], 32, le64(sampleSize+3)), 40, le64(sampleSize+3+112+1))
	reads(t, moved, api.OK)
}

// TestP20_1Segments: their Offset and Filesz.
func TestP20_1Segments(t *testing.T) {
	s := sampleFile(t)
	for _, at := range []int{segmentsAt, segmentsAt + 56} {
		for _, n := range huge() {
			e := api.ErrForm
			if n <= 1<<40 {
				e = api.ErrCut
			}
			reads(t, change(s, at+8, le64(n)), e)
			reads(t, change(s, at+32, le64(n)), e)
			reads(t, change(change(s, at+8, le64(n)), at+32, le64(n)), e)
			// Memsz, and the addresses, may be anything.
			reads(t, change(change(change(change(s, at+16, le64(n)), at+24, le64(n)), at+40, le64(n)), at+48, le64(n)), api.OK)
		}
		place := func(offset uint64, n uint64, e api.Errno) {
			t.Helper()
			reads(t, change(change(s, at+8, le64(offset)), at+32, le64(n)), e)
		}
		place(0, sampleSize, api.OK)
		place(0, sampleSize+1, api.ErrCut)
		place(1, sampleSize, api.ErrCut)
		place(sampleSize, 0, api.OK)
		place(sampleSize+1, 0, api.ErrCut)
		place(sampleSize-1, 1, api.OK)
		place(sampleSize, 1, api.ErrCut)
		place(1<<40, 0, api.ErrCut)
		place(1<<40+1, 0, api.ErrForm)
		place(0, 1<<40+1, api.ErrForm)
		place(1<<40, 1<<40+1, api.ErrForm)
		place(1<<40+1, 1<<40, api.ErrForm)
	}
}

// TestP20_1First: the header of the first section is empty.
func TestP20_1First(t *testing.T) {
	s := sampleFile(t)
	for i := range 64 {
		for c := 1; c < 256; c++ {
			reads(t, change(s, sectionsAt+i, octet(c)), api.ErrForm)
		}
	}
}

// TestP20_1Sections: their offset and sampleSize.
func TestP20_1Sections(t *testing.T) {
	s := sampleFile(t)
	for i := 1; i <= 5; i++ {
		at := sectionsAt + 64*i
		none := i == 2
		place := func(offset uint64, n uint64, e api.Errno) {
			t.Helper()
			if none && e == api.ErrCut {
				e = api.OK // without Data in the file, these may be anywhere
			}
			if i == 5 && e == api.OK {
				e = api.ErrForm // these are no names
			}
			reads(t, change(s, at+24, le64(offset)+le64(n)), e)
		}
		for _, n := range huge() {
			e := api.ErrForm
			if n <= 1<<40 {
				e = api.ErrCut
			}
			place(n, 0, e)
			place(0, n, e)
			place(n, n, e)
			place(n, ^n, api.ErrForm)
			// Flags, Addr, Align and Each may be anything.
			reads(t, change(change(s, at+8, le64(n)+le64(n)), at+48, le64(n)+le64(n)), api.OK)
		}
		place(0, sampleSize, api.OK)
		place(0, sampleSize+1, api.ErrCut)
		place(1, sampleSize, api.ErrCut)
		place(sampleSize, 0, api.OK)
		place(sampleSize+1, 0, api.ErrCut)
		place(sampleSize-1, 1, api.OK)
		place(sampleSize, 1, api.ErrCut)
	}
	// Overlapping ones, of which each has its Data.
	both := change(change(s, sectionsAt+64+24, le64(1)+le64(5)), sectionsAt+4*64+24, le64(3)+le64(2))
	if m, e := Read(both); e != api.OK || m.Sections[0].Data != "ELF\x02\x01" || m.Sections[3].Data != "F\x02" {
		t.Errorf("%v, %d", m, e)
	}
	sameRead(t, both)
}

// TestP20_1LastType: that of the section with the names is 3, and that of others is any.
func TestP20_1LastType(t *testing.T) {
	s := sampleFile(t)
	for _, n := range []int{0, 1, 2, 4, 8, 256 + 3, 3 << 8, 3 << 24, 1<<32 - 1} {
		reads(t, change(s, lastAt+4, le32(n)), api.ErrForm)
		// A missing end of the names is known first, unless they have none.
		e := api.ErrCut
		if n == 8 {
			e = api.ErrForm
		}
		reads(t, change(change(s, lastAt+4, le32(n)), lastAt+24, le64(sampleSize)), e)
		reads(t, change(s, sectionsAt+64+4, le32(n)), api.OK)
	}
	// What else its header tells may be anything.
	for i := range 64 {
		if i >= 8 && i < 24 || i >= 40 {
			reads(t, change(s, lastAt+i, "\xff"), api.OK)
		}
	}
}

// TestP20_1Names: at each offset of them, and beyond.
func TestP20_1Names(t *testing.T) {
	s := sampleFile(t)
	names := s[namesAt : namesAt+28]
	if names[18:] != ".shstrtab\x00" {
		t.Fatalf("%q", names)
	}
	for i := 1; i <= 5; i++ {
		for n := range 60 {
			e := api.ErrForm
			if n < 28 && (i < 5 || n == 18) {
				e = api.OK
			}
			bad := change(s, sectionsAt+64*i, le32(n))
			reads(t, bad, e)
			if m, e := Read(bad); e == api.OK && i < 5 && m.Sections[i-1].Name != strings.Split(names[n:], "\x00")[0] {
				t.Errorf("section %d at %d: %q", i, n, m.Sections[i-1].Name)
			}
		}
		for _, n := range []int{namesAt, 1 << 16, 1<<31 - 1, 1 << 31, 1<<32 - 28, 1<<32 - 1} {
			reads(t, change(s, sectionsAt+64*i, le32(n)), api.ErrForm)
		}
	}
	// A name ends within the names, though there are bytes 0 behind them.
	for n := range 28 {
		reads(t, change(s, lastAt+32, le64(uint64(n))), api.ErrForm)
	}
	reads(t, change(s, lastAt+32, le64(29)), api.OK)
	// The last one's is that and no other.
	for i := range 9 {
		reads(t, change(s, namesAt+18+i, "\x00"), api.ErrForm)
		reads(t, change(s, namesAt+18+i, "x"), api.ErrForm)
	}
	reads(t, change(s, namesAt+27, "x"), api.ErrForm) // .shstrtabx, which ends with the padding outside the names
	reads(t, change(change(s, namesAt+27, "x"), lastAt+32, le64(29)), api.ErrForm)
}

// TestP20_1LongNames: up to 200 bytes.
func TestP20_1LongNames(t *testing.T) {
	for n := range 300 {
		name := strings.Repeat("n", n)
		names := "\x00" + name + "\x00.shstrtab\x00"
		sections := []other.Section64{{}, {Name: 1, Type: 8}, {Name: uint32(2 + n), Type: 3, Off: 64, Size: uint64(len(names))}}
		s := stored(heading(api.Elf{}, 0, 0, 64+len(names), 3)) + names + stored(sections)
		e := api.OK
		if n > 200 {
			e = api.ErrForm
		}
		reads(t, s, e)
		if m, _ := Read(s); e == api.OK && m.Sections[0].Name != name {
			t.Errorf("%d bytes: %q", n, m.Sections[0].Name)
		}
		// Only what a section's name is counts, not what else is in the names.
		sections[1].Name = uint32(1 + n/2)
		reads(t, stored(heading(api.Elf{}, 0, 0, 64+len(names), 3))+names+stored(sections), api.OK)
		// Without an end, there is no name, however long.
		sections[1].Name, sections[2].Name = uint32(len(names)), 1
		names = "\x00.shstrtab\x00" + name
		sections[1].Name, sections[2].Size = 11, uint64(len(names))
		reads(t, stored(heading(api.Elf{}, 0, 0, 64+len(names), 3))+names+stored(sections), api.ErrForm)
	}
}

// TestP20_1Order: of two faults, the one that the promise names first is returned.
func TestP20_1Order(t *testing.T) {
	s := sampleFile(t)
	faults := []struct {
		at   int
		with string
		e    api.Errno
	}{
		{5, "\x02", api.ErrForm},
		{40, le64(1 << 63), api.ErrCut},
		{segmentsAt + 8, le64(1 << 41), api.ErrForm},
		{segmentsAt + 32, le64(1 << 39), api.ErrCut},
		{segmentsAt + 56 + 8, le64(1 << 39), api.ErrCut},
		{segmentsAt + 56 + 32, le64(1 << 41), api.ErrForm},
		{sectionsAt + 63, "\x01", api.ErrForm},
		{sectionsAt + 64 + 24, le64(1 << 39), api.ErrCut},
		{sectionsAt + 2*64 + 32, le64(1 << 41), api.ErrForm},
		{sectionsAt + 3*64 + 32, le64(sampleSize + 1), api.ErrCut},
		{sectionsAt + 4*64 + 24, le64(1 << 41), api.ErrForm},
		{lastAt + 24, le64(sampleSize), api.ErrCut},
		{lastAt + 4, le32(4), api.ErrForm},
		{sectionsAt + 64, le32(sampleSize), api.ErrForm},
	}
	for i, x := range faults {
		reads(t, change(s, x.at, x.with), x.e)
		for k, y := range faults[i+1:] {
			e := x.e
			// Of one segment's two numbers, the one that is too great counts first.
			if i == 3 && k == 0 || i == 4 && k == 0 {
				e = map[int]api.Errno{3: api.ErrCut, 4: api.ErrForm}[i]
			}
			reads(t, change(change(s, x.at, x.with), y.at, y.with), e)
			reads(t, change(change(s, x.at, x.with), y.at, y.with)[:63], api.ErrCut)
		}
	}
	// Both tables are looked for before any segment is looked at.
	reads(t, change(change(s, 32, le64(1<<63)), sectionsAt+1, "x"), api.ErrCut)
	reads(t, change(s, segmentsAt+8, le64(1<<41))[:sampleSize-1], api.ErrCut)
}

// TestP20_1EveryByte of two files, with each value.
func TestP20_1EveryByte(t *testing.T) {
	random := rand.New(rand.NewSource(1))
	for _, s := range []string{sampleFile(t), randomPlan(random).file()} {
		for i := range len(s) {
			for c := range 256 {
				sameRead(t, change(s, i, octet(c)))
			}
		}
	}
}

// TestP20_1Plans: files whose parts lie in any order.
func TestP20_1Plans(t *testing.T) {
	random := rand.New(rand.NewSource(2))
	good := 0
	for range 5000 {
		s := randomPlan(random).file()
		if sameRead(t, s) == api.OK {
			good++
		}
	}
	if good != 5000 {
		t.Errorf("only %d can be read", good)
	}
}

// spoiled is a number that often is at an edge of what there may be.
func spoiled(random *rand.Rand, n uint64) uint64 {
	edges := []uint64{n + 1, n - 1, n ^ 1<<random.Intn(64), 0, 1500, 1501, 1 << 40, 1<<40 + 1, random.Uint64() >> random.Intn(64)}
	return edges[random.Intn(len(edges))]
}

// spoil changes some numbers of a plan.
func (p plan) spoil(random *rand.Rand) plan {
	for range random.Intn(3) {
		switch random.Intn(8) {
		case 0:
			p.head.Phoff = min(spoiled(random, p.head.Phoff), 1500-56*3)
		case 1:
			p.head.Shnum++
		case 2:
			p.head.Shstrndx = uint16(spoiled(random, uint64(p.head.Shstrndx)))
		case 3, 4:
			if len(p.segments) > 0 {
				x := &p.segments[random.Intn(len(p.segments))]
				x.Off, x.Filesz = spoiled(random, x.Off), x.Filesz+uint64(random.Intn(2))
			}
		default:
			x := &p.sections[random.Intn(len(p.sections))]
			switch random.Intn(4) {
			case 0:
				x.Off = spoiled(random, x.Off)
			case 1:
				x.Size = spoiled(random, x.Size)
			case 2:
				x.Name = uint32(spoiled(random, uint64(x.Name)))
			case 3:
				x.Type = uint32(random.Intn(10))
			}
		}
	}
	return p
}

// TestP20_1Spoiled: with some numbers changed, there is what the model returns.
func TestP20_1Spoiled(t *testing.T) {
	random := rand.New(rand.NewSource(3))
	seen := map[api.Errno]int{}
	for range 20000 {
		s := randomPlan(random).spoil(random).file()
		if random.Intn(10) == 0 {
			s = s[:random.Intn(len(s))]
		}
		seen[sameRead(t, s)]++
	}
	for _, e := range []api.Errno{api.OK, api.ErrCut, api.ErrForm} {
		if seen[e] < 2000 {
			t.Errorf("error %d: %d times", e, seen[e])
		}
	}
}

// TestR1Overlapping: Data that overlap take no memory while it is not clear that there will be a result.
func TestR1Overlapping(t *testing.T) {
	const n = 1 << 26
	b, err := syscall.Mmap(-1, 0, n, syscall.PROT_READ|syscall.PROT_WRITE, syscall.MAP_ANON|syscall.MAP_PRIVATE)
	if err != nil {
		t.Skip(err)
	}
	defer syscall.Munmap(b)
	sections := make([]other.Section64, 1002)
	for i := range sections {
		if i > 0 {
			sections[i] = other.Section64{Type: 3, Size: n}
		}
	}
	copy(b, stored(heading(api.Elf{}, 0, 0, 64, 1002), sections))
	if _, e := Read(unsafe.String(&b[0], n)); e != api.ErrForm {
		t.Errorf("%d", e)
	}
}

// TestP20_1OfAnotherWriter: what a linker writes is read as another reader does, if the names come last.
func TestP20_1OfAnotherWriter(t *testing.T) {
	path, err := os.Executable()
	if err != nil {
		t.Skip(err)
	}
	b, err := os.ReadFile(path)
	if err != nil || !strings.HasPrefix(string(b), start) {
		t.Skip("not such a file")
	}
	f, err := other.NewFile(bytes.NewReader(b))
	if err != nil {
		t.Skip(err)
	}
	m, e := Read(string(b))
	sameRead(t, string(b))
	if last := f.Sections[len(f.Sections)-1]; last.Name != ".shstrtab" {
		if e != api.ErrForm {
			t.Errorf("%d", e)
		}
		return
	}
	if e != api.OK || len(m.Segments) != len(f.Progs) || len(m.Sections) != len(f.Sections)-2 {
		t.Fatalf("%d, %d segments, %d sections", e, len(m.Segments), len(m.Sections))
	}
	for i, x := range m.Sections {
		if y := f.Sections[i+1]; x.Name != y.Name || x.Addr != y.Addr || uint64(len(x.Data)+x.Size) != y.FileSize && x.Type != 8 {
			t.Errorf("%s at %d: %v", x.Name, x.Addr, y)
		}
	}
}
