package elf

import (
	"strings"

	"mortise/api"
	"mortise/win"
)

// boundary is that of what follows the segments' headers.
const boundary = 8

// writer is a builder that also writes numbers, which must fit.
type writer struct {
	strings.Builder
}

func (w *writer) number(n uint64, width int) {
	s, _ := win.Bytes(n, width, false)
	w.WriteString(s)
}

func (w *writer) halves(l ...int) {
	for _, n := range l {
		w.number(uint64(n), 2)
	}
}

func (w *writer) words(l ...int) {
	for _, n := range l {
		w.number(uint64(n), 4)
	}
}

func (w *writer) longs(l ...uint64) {
	for _, n := range l {
		w.number(n, 8)
	}
}

func (w *writer) align() {
	for w.Len()%boundary != 0 {
		w.WriteByte(0)
	}
}

// placed is a section, with the offsets of its name in the names and of its Data.
type placed struct {
	api.Section
	name int
	at   int
}

// all returns all sections of a file: those of a model, between an empty one and the one with the names.
func all(l []api.Section) []placed {
	var b strings.Builder
	var p []placed
	add := func(more ...api.Section) {
		for _, x := range more {
			p = append(p, placed{Section: x, name: b.Len()})
			b.WriteString(x.Name)
			b.WriteByte(0)
		}
	}
	add(api.Section{})
	add(l...)
	add(api.Section{Name: namesName, Type: typeNames, Align: 1})
	p[len(p)-1].Data = b.String()
	return p
}

// place sets where the Data of sections are, from an offset on, and returns the offset of their headers.
func place(l []placed, from int) int {
	aligned := func(at int) int {
		// No string is so long that this fails.
		n, _ := win.Align(at, boundary)
		return n
	}
	at := from
	for i, x := range l {
		if x.Data != "" {
			l[i].at = aligned(at)
			at = l[i].at + len(x.Data)
		}
	}
	return aligned(at)
}

func (w *writer) head(m api.Elf, sectionsAt int) {
	segmentsAt := headWidth
	if len(m.Segments) == 0 {
		segmentsAt = 0
	}
	sections := own + len(m.Sections)
	w.WriteString(magic)
	w.halves(m.Type, m.Machine)
	w.words(version)
	w.longs(m.Entry, uint64(segmentsAt), uint64(sectionsAt))
	w.words(m.Flags)
	w.halves(headWidth, segmentWidth, len(m.Segments), sectionWidth, sections, sections-1)
}

func (w *writer) segment(x api.Segment) {
	w.words(x.Type, x.Flags)
	w.longs(uint64(x.Offset), x.Vaddr, x.Paddr, uint64(x.Filesz), x.Memsz, x.Align)
}

func (w *writer) section(x placed) {
	size := len(x.Data)
	if x.Type == typeNone {
		size = x.Size
	}
	w.words(x.name, x.Type)
	w.longs(x.Flags, x.Addr, uint64(x.at), uint64(size))
	w.words(x.Link, x.Info)
	w.longs(x.Align, x.Each)
}

// Write returns the file of a model.
func Write(m api.Elf) (string, api.Errno) {
	if !isValid(m) {
		return "", api.ErrArg
	}
	l := all(m.Sections)
	w := &writer{}
	w.head(m, place(l, headWidth+segmentWidth*len(m.Segments)))
	for _, x := range m.Segments {
		w.segment(x)
	}
	for _, x := range l {
		if x.Data != "" {
			w.align()
			w.WriteString(x.Data)
		}
	}
	w.align()
	for _, x := range l {
		w.section(x)
	}
	return w.String(), api.OK
}
