package elf

import (
	"bytes"
	"encoding/binary"
	"math/rand"
	"slices"
	"strings"
	"testing"

	other "debug/elf"

	"mortise/api"
)

// stored is any of the given headers as it is stored.
func stored(headers ...any) string {
	var b bytes.Buffer
	for _, h := range headers {
		if err := binary.Write(&b, binary.LittleEndian, h); err != nil {
			panic(err)
		}
	}
	return b.String()
}

// read fills a given header from bytes.
func read(s string, h any) {
	if err := binary.Read(strings.NewReader(s), binary.LittleEndian, h); err != nil {
		panic(err)
	}
}

const start = "\x7f\x45\x4c\x46\x02\x01\x01\x00\x00\x00\x00\x00\x00\x00\x00\x00"

func goodHead(h other.Header64) bool {
	return string(h.Ident[:]) == start && h.Version == 1 && h.Ehsize == 64 && h.Phentsize == 56 && h.Shentsize == 64 &&
		h.Shnum >= 2 && int(h.Shstrndx) == int(h.Shnum)-1 && h.Phnum <= 1000 && h.Shnum <= 1002
}

// inside tells whether s has n bytes from at on.
func inside(s string, at uint64, n uint64) bool {
	return at <= uint64(len(s)) && n <= uint64(len(s))-at
}

const tera = 1 << 40

// modelSegments is what Read returns for these headers.
func modelSegments(s string, l []other.Prog64) ([]api.Segment, api.Errno) {
	var all []api.Segment
	for _, x := range l {
		if x.Off > tera || x.Filesz > tera {
			return nil, api.ErrForm
		}
		if !inside(s, x.Off, x.Filesz) {
			return nil, api.ErrCut
		}
		all = append(all, api.Segment{Type: int(x.Type), Flags: int(x.Flags), Offset: int(x.Off), Vaddr: x.Vaddr, Paddr: x.Paddr, Filesz: int(x.Filesz), Memsz: x.Memsz, Align: x.Align})
	}
	return all, api.OK
}

// modelBounds is the error of the sections' headers, without their names.
func modelBounds(s string, l []other.Section64) api.Errno {
	if l[0] != (other.Section64{}) {
		return api.ErrForm
	}
	for _, x := range l[1:] {
		if x.Off > tera || x.Size > tera {
			return api.ErrForm
		}
		if x.Type != 8 && !inside(s, x.Off, x.Size) {
			return api.ErrCut
		}
	}
	if l[len(l)-1].Type != 3 {
		return api.ErrForm
	}
	return api.OK
}

// modelName is the name at an offset; false if there is none.
func modelName(names string, at int) (string, bool) {
	for i := at; i < len(names); i++ {
		if names[i] == 0 {
			return names[at:i], i-at <= 200
		}
	}
	return "", false
}

// modelSections is what Read returns for these headers.
func modelSections(s string, l []other.Section64) ([]api.Section, api.Errno) {
	if e := modelBounds(s, l); e != api.OK {
		return nil, e
	}
	last := l[len(l)-1]
	names := s[last.Off : last.Off+last.Size]
	var all []api.Section
	for _, x := range l[1:] {
		name, ok := modelName(names, int(x.Name))
		if !ok {
			return nil, api.ErrForm
		}
		y := api.Section{Name: name, Type: int(x.Type), Flags: x.Flags, Addr: x.Addr, Link: int(x.Link), Info: int(x.Info), Align: x.Addralign, Each: x.Entsize}
		if x.Type == 8 {
			y.Size = int(x.Size)
		} else {
			y.Data = s[x.Off : x.Off+x.Size]
		}
		all = append(all, y)
	}
	if all[len(all)-1].Name != ".shstrtab" {
		return nil, api.ErrForm
	}
	return all[:len(all)-1], api.OK
}

// modelRead is Read as the chapter tells it.
func modelRead(s string) (api.Elf, api.Errno) {
	if len(s) < 64 {
		return api.Elf{}, api.ErrCut
	}
	var h other.Header64
	read(s, &h)
	if !goodHead(h) {
		return api.Elf{}, api.ErrForm
	}
	if h.Phnum > 0 && !inside(s, h.Phoff, 56*uint64(h.Phnum)) || !inside(s, h.Shoff, 64*uint64(h.Shnum)) {
		return api.Elf{}, api.ErrCut
	}
	segments, sections := make([]other.Prog64, h.Phnum), make([]other.Section64, h.Shnum)
	if h.Phnum > 0 {
		read(s[h.Phoff:], segments)
	}
	read(s[h.Shoff:], sections)
	m := api.Elf{Type: int(h.Type), Machine: int(h.Machine), Entry: h.Entry, Flags: int(h.Flags)}
	var e api.Errno
	if m.Segments, e = modelSegments(s, segments); e != api.OK {
		return api.Elf{}, e
	}
	if m.Sections, e = modelSections(s, sections); e != api.OK {
		return api.Elf{}, e
	}
	return m, api.OK
}

// heading is the head of a file with such tables.
func heading(m api.Elf, at int, segments int, sectionsAt int, sections int) other.Header64 {
	h := other.Header64{Type: uint16(m.Type), Machine: uint16(m.Machine), Version: 1, Entry: m.Entry, Phoff: uint64(at), Shoff: uint64(sectionsAt), Flags: uint32(m.Flags), Ehsize: 64, Phentsize: 56, Phnum: uint16(segments), Shentsize: 64, Shnum: uint16(sections), Shstrndx: uint16(sections - 1)}
	copy(h.Ident[:], start)
	return h
}

func prog(x api.Segment) other.Prog64 {
	return other.Prog64{Type: uint32(x.Type), Flags: uint32(x.Flags), Off: uint64(x.Offset), Vaddr: x.Vaddr, Paddr: x.Paddr, Filesz: uint64(x.Filesz), Memsz: x.Memsz, Align: x.Align}
}

// sect is the header of a section whose name and Data are at such offsets.
func sect(x api.Section, name int, at int) other.Section64 {
	return other.Section64{Name: uint32(name), Type: uint32(x.Type), Flags: x.Flags, Addr: x.Addr, Off: uint64(at), Size: uint64(len(x.Data) + x.Size), Link: uint32(x.Link), Info: uint32(x.Info), Addralign: x.Align, Entsize: x.Each}
}

func within(n int, most int) bool { return 0 <= n && n <= most }

// goodModel is whether a model is valid.
func goodModel(m api.Elf) bool {
	good := within(m.Type, 65535) && within(m.Machine, 65535) && within(m.Flags, 4294967295) && len(m.Segments) <= 1000 && len(m.Sections) <= 1000
	for _, x := range m.Segments {
		good = good && within(x.Type, 4294967295) && within(x.Flags, 4294967295) && within(x.Offset, tera) && within(x.Filesz, tera)
	}
	for _, x := range m.Sections {
		good = good && len(x.Name) <= 200 && strings.Count(x.Name, "\x00") == 0 && within(x.Type, 4294967295) && within(x.Link, 4294967295) && within(x.Info, 4294967295) && within(x.Size, tera)
		if x.Type == 8 {
			good = good && x.Data == ""
		} else {
			good = good && x.Size == 0
		}
	}
	return good
}

// padded is s with bytes 0 up to a multiple of 8.
func padded(s string) string { return s + "\x00\x00\x00\x00\x00\x00\x00"[:(8-len(s)%8)%8] }

// modelWrite is Write as the chapter tells it.
func modelWrite(m api.Elf) (string, api.Errno) {
	if !goodModel(m) {
		return "", api.ErrArg
	}
	var rows []any
	segmentsAt := 0
	for _, x := range m.Segments {
		segmentsAt = 64
		rows = append(rows, prog(x))
	}
	body := strings.Repeat("h", 64) + stored(rows...) // the head comes last
	headers := []any{other.Section64{}}
	names := "\x00"
	for _, x := range m.Sections {
		at := 0
		if x.Data != "" {
			body = padded(body)
			at = len(body)
			body += x.Data
		}
		headers = append(headers, sect(x, len(names), at))
		names += x.Name + "\x00"
	}
	body = padded(body)
	own := len(names)
	names += ".shstrtab\x00"
	headers = append(headers, other.Section64{Name: uint32(own), Type: 3, Off: uint64(len(body)), Size: uint64(len(names)), Addralign: 1})
	body = padded(body + names)
	return stored(heading(m, segmentsAt, len(m.Segments), len(body), len(headers))) + body[64:] + stored(headers...), api.OK
}

func sameElf(m api.Elf, n api.Elf) bool {
	return m.Type == n.Type && m.Machine == n.Machine && m.Entry == n.Entry && m.Flags == n.Flags && slices.Equal(m.Segments, n.Segments) && slices.Equal(m.Sections, n.Sections)
}

// sameRead holds Read against the model.
func sameRead(t *testing.T, s string) api.Errno {
	t.Helper()
	m, e := Read(s)
	want, f := modelRead(s)
	if !sameElf(m, want) || e != f || e != api.OK && (m.Segments != nil || m.Sections != nil) {
		t.Errorf("%.900q: %.900v, %d, not %.900v, %d", s, m, e, want, f)
	}
	return e
}

// sameWrite holds Write against the model, and reads again what is written.
func sameWrite(t *testing.T, m api.Elf) (string, api.Errno) {
	t.Helper()
	s, e := Write(m)
	want, f := modelWrite(m)
	if s != want || e != f {
		t.Errorf("%.900v: %.900q, %d, not %.900q, %d", m, s, e, want, f)
	}
	if e != api.OK {
		return s, e
	}
	reading := api.OK // P20.3
	for _, x := range m.Segments {
		if x.Offset > len(s) || x.Filesz > len(s)-x.Offset {
			reading = api.ErrCut
		}
	}
	if n, e := Read(s); e != reading || e == api.OK && !sameElf(n, m) {
		t.Errorf("%.900v: %.900v, %d, not %d", m, n, e, reading)
	}
	return s, e
}

func noise(random *rand.Rand, n int) string {
	b := make([]byte, n)
	random.Read(b)
	return string(b)
}

// letters is n bytes without a byte 0.
func letters(random *rand.Rand, n int) string {
	return strings.ReplaceAll(noise(random, n), "\x00", "z")
}

// numeral is a number of so many bits, often the least or the greatest one.
func numeral(random *rand.Rand, bits int) uint64 {
	most := ^uint64(0) >> (64 - bits)
	return []uint64{0, 1, most, random.Uint64() & most, random.Uint64() & most >> random.Intn(bits)}[random.Intn(5)]
}

func randomSegment(random *rand.Rand) api.Segment {
	return api.Segment{Type: int(numeral(random, 32)), Flags: int(numeral(random, 32)), Offset: random.Intn(random.Intn(800) + 1), Vaddr: numeral(random, 64), Paddr: numeral(random, 64), Filesz: random.Intn(200), Memsz: numeral(random, 64), Align: numeral(random, 64)}
}

func randomSection(random *rand.Rand) api.Section {
	x := api.Section{Name: letters(random, random.Intn(12)), Type: int(numeral(random, 32)), Flags: numeral(random, 64), Addr: numeral(random, 64), Link: int(numeral(random, 32)), Info: int(numeral(random, 32)), Align: numeral(random, 64), Each: numeral(random, 64)}
	switch random.Intn(5) {
	case 0:
		x.Type, x.Size = 8, int(numeral(random, 40))
	case 1:
		x.Type = 3
	}
	if x.Type != 8 {
		x.Data = noise(random, random.Intn(3)*random.Intn(20))
	}
	return x
}

// randomModel is a valid one, whose segments often are not in its file.
func randomModel(random *rand.Rand) api.Elf {
	m := api.Elf{Type: int(numeral(random, 16)), Machine: int(numeral(random, 16)), Entry: numeral(random, 64), Flags: int(numeral(random, 32))}
	for range random.Intn(4) {
		m.Segments = append(m.Segments, randomSegment(random))
	}
	for range random.Intn(5) {
		m.Sections = append(m.Sections, randomSection(random))
	}
	return m
}

// change is s with other bytes from an offset on.
func change(s string, at int, with string) string { return s[:at] + with + s[at+len(with):] }

func octet(c int) string { return string([]byte{byte(c)}) }

func le16(n int) string { return string(binary.LittleEndian.AppendUint16(nil, uint16(n))) }

func le32(n int) string { return string(binary.LittleEndian.AppendUint32(nil, uint32(n))) }

func le64(n uint64) string { return string(binary.LittleEndian.AppendUint64(nil, n)) }

// plan is a file whose parts are laid in any order, with gaps.
type plan struct {
	head     other.Header64
	segments []other.Prog64
	sections []other.Section64
	text     string
}

// file puts the headers of a plan into its text.
func (p plan) file() string {
	s := change(p.text, 0, stored(p.head))
	if len(p.segments) > 0 {
		s = change(s, int(p.head.Phoff), stored(p.segments))
	}
	return change(s, int(p.head.Shoff), stored(p.sections))
}

// randomPlan is one of a file that can be read: Data may overlap, and names may be shared.
func randomPlan(random *rand.Rand) plan {
	const size = 1500
	p := plan{text: noise(random, size)}
	names := "\x00" + letters(random, random.Intn(9)) + "\x00.rela.text\x00" + letters(random, 200) + "\x00a.shstrtab\x00" + letters(random, random.Intn(3))
	segments, sections := random.Intn(4), 2+random.Intn(4)
	// The head, both tables and the names, which may not overlap, are in a random order behind the head.
	at := []int{0, 0, 0}
	length := []int{56 * segments, 64 * sections, len(names)}
	next := 64
	for _, i := range random.Perm(3) {
		next += random.Intn(9)
		at[i] = next
		next += length[i]
	}
	p.text = change(p.text, at[2], names)
	p.head = heading(api.Elf{Type: int(numeral(random, 16)), Machine: int(numeral(random, 16)), Entry: numeral(random, 64), Flags: int(numeral(random, 32))}, at[0], segments, at[1], sections)
	for range segments {
		x := randomSegment(random)
		x.Offset = random.Intn(size + 1)
		x.Filesz = random.Intn(size + 1 - x.Offset)
		p.segments = append(p.segments, prog(x))
	}
	p.sections = make([]other.Section64, sections)
	for i := 1; i < sections; i++ {
		x := randomSection(random)
		from := random.Intn(size + 1 - len(x.Data))
		name := random.Intn(len(names))
		for _, ok := modelName(names, name); !ok; _, ok = modelName(names, name) {
			name = random.Intn(len(names))
		}
		p.sections[i] = sect(x, name, from)
	}
	last := &p.sections[sections-1]
	last.Name, last.Type, last.Off, last.Size = uint32(strings.Index(names, ".shstrtab")), 3, uint64(at[2]), uint64(len(names))
	return p
}
