package elf

import (
	"strings"

	"mortise/api"
	"mortise/win"
)

// caught calls a function, and returns the error that it panics with.
func caught(f func()) (e api.Errno) {
	defer func() {
		if x := recover(); x != nil {
			e = x.(api.Errno)
		}
	}()
	f()
	return api.OK
}

// demand panics with an error unless everything is as it must be.
func demand(ok bool, e api.Errno) {
	if !ok {
		panic(e)
	}
}

// reader reads a window's numbers, one behind the other.
type reader struct {
	win.Window
	at int
}

func (r *reader) number(width int) uint64 {
	n, e := r.Uint(r.at, width, false)
	demand(e == api.OK, e)
	r.at += width
	return n
}

func (r *reader) half() int { return int(r.number(2)) }

func (r *reader) word() int { return int(r.number(4)) }

func (r *reader) long() uint64 { return r.number(8) }

// amount reads a number that may not be as great as eight bytes allow.
func (r *reader) amount() int {
	n := r.long()
	demand(n <= maxAmount, api.ErrForm)
	return int(n)
}

// file is all of a file's bytes.
type file struct {
	win.Window
}

// part returns a reader of the n bytes from at on.
func (f file) part(at uint64, n int) *reader {
	demand(at <= uint64(f.Len()), api.ErrCut)
	w, e := f.Sub(int(at), n)
	demand(e == api.OK, e)
	return &reader{Window: w}
}

// head is what the first bytes of a file tell.
type head struct {
	api.Elf    // without Segments and Sections
	segmentsAt uint64
	sectionsAt uint64
	segments   int
	sections   int
}

func (f file) head() head {
	r := f.part(0, headWidth)
	is := func(ok bool) { demand(ok, api.ErrForm) }
	is(strings.HasPrefix(r.Text(), magic))
	r.at = len(magic)
	var h head
	h.Type, h.Machine = r.half(), r.half()
	is(r.word() == version)
	h.Entry, h.segmentsAt, h.sectionsAt, h.Flags = r.long(), r.long(), r.long(), r.word()
	is(r.half() == headWidth)
	is(r.half() == segmentWidth)
	h.segments = r.half()
	is(r.half() == sectionWidth)
	h.sections = r.half()
	is(r.half() == h.sections-1)
	is(h.sections >= own && h.sections <= own+maxParts && h.segments <= maxParts)
	return h
}

// segment reads a segment, whose bytes must be in the file.
func (f file) segment(r *reader) api.Segment {
	x := api.Segment{Type: r.word(), Flags: r.word(), Offset: r.amount(), Vaddr: r.long(), Paddr: r.long(), Filesz: r.amount(), Memsz: r.long(), Align: r.long()}
	f.part(uint64(x.Offset), x.Filesz)
	return x
}

// section is one without its Name and Data, which are copied only if all is well: they may overlap, and take far more memory than the file.
type section struct {
	api.Section
	name int // offset in the names
	data string
}

func (f file) section(r *reader) section {
	var x section
	x.name, x.Type, x.Flags, x.Addr = r.word(), r.word(), r.long(), r.long()
	at, n := r.amount(), r.amount()
	x.Link, x.Info, x.Align, x.Each = r.word(), r.word(), r.long(), r.long()
	if x.Type == typeNone {
		x.Size = n
		return x
	}
	x.data = f.part(uint64(at), n).Text()
	return x
}

// sections reads all sections but the first one, which must be empty.
func (f file) sections(r *reader, n int) []section {
	for range sectionWidth / 8 {
		demand(r.long() == 0, api.ErrForm)
	}
	l := make([]section, n-1)
	for i := range l {
		l[i] = f.section(r)
	}
	return l
}

// nameAt returns the name that begins at an offset.
func nameAt(names string, at int) string {
	demand(at <= len(names), api.ErrForm)
	name, _, ok := strings.Cut(names[at:], "\x00")
	demand(ok && len(name) <= maxName, api.ErrForm)
	return name
}

// named gives all sections their names, and returns them without the last one, which contains these.
func named(l []section) []section {
	last := len(l) - 1
	demand(l[last].Type == typeNames, api.ErrForm)
	for i, x := range l {
		l[i].Name = nameAt(l[last].data, x.name)
	}
	demand(l[last].Name == namesName, api.ErrForm)
	return l[:last]
}

// model reads everything.
func (f file) model() api.Elf {
	h := f.head()
	m := h.Elf
	var segments *reader
	if h.segments > 0 {
		segments = f.part(h.segmentsAt, h.segments*segmentWidth)
	}
	sections := f.part(h.sectionsAt, h.sections*sectionWidth)
	for range h.segments {
		m.Segments = append(m.Segments, f.segment(segments))
	}
	for _, x := range named(f.sections(sections, h.sections)) {
		x.Name, x.Data = strings.Clone(x.Name), strings.Clone(x.data)
		m.Sections = append(m.Sections, x.Section)
	}
	return m
}

// Read returns the model of a file.
func Read(s string) (api.Elf, api.Errno) {
	var m api.Elf
	e := caught(func() { m = file{win.Of(s)}.model() })
	return m, e
}
