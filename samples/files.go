package samples

import (
	"slices"
	"strconv"
	"strings"

	"mortise/api"
	"mortise/deflate"
	"mortise/elf"
	"mortise/match"
	"mortise/png"
	"mortise/sfnt"
	"mortise/sums"
	"mortise/tar"
	"mortise/wav"
	"mortise/win"
	"mortise/zip"
)

// Files of models are correct ones, but mostly not those that are written for these models.

// set writes a number over some bytes.
func set(b []byte, at int, n int, width int, big bool) {
	// Files are so small that all numbers fit.
	s, _ := win.Bytes(uint64(n), width, big)
	copy(b[at:], s)
}

// scatter puts parts into any order with gaps between them, and returns their offsets too, which are multiples of a boundary.
func scatter(choose func(n int) int, from int, boundary int, parts []string) (string, []int) {
	at := make([]int, len(parts))
	body := ""
	for _, i := range order(choose, len(parts)) {
		body += noise(choose, choose(2)*choose(9))
		aligned, _ := win.Align(from+len(body), boundary)
		body += noise(choose, aligned-from-len(body))
		at[i] = aligned
		body += parts[i]
	}
	return body, at
}

// order is the numbers from 0 to n - 1 in any order.
func order(choose func(n int) int, n int) []int {
	var l []int
	for i := range n {
		l = slices.Insert(l, choose(i+1), i)
	}
	return l
}

// Png returns a file, and its chunks.
func Png(choose func(n int) int) (string, []api.Chunk) {
	l := append(Chunks(choose), api.Chunk{Type: "IEND", Data: data(choose)})
	s, _ := png.Join(l)
	return s, l
}

// Wav returns a file whose other chunks are anywhere, and its sound.
func Wav(choose func(n int) int) (string, api.Sound) {
	m := Sound(choose)
	s, _ := wav.Write(m)
	_, l, _ := wav.Split(s)
	i := choose(len(m.More) + 1)
	k := i + choose(len(m.More)-i+1)
	s, _ = wav.Join("WAVE", slices.Concat(m.More[:i], l[:1], m.More[i:k], l[1:2], m.More[k:]))
	return s, m
}

// Sfnt returns a font whose Data are anywhere, and its kind and tables.
func Sfnt(choose func(n int) int) (string, uint32, []api.Table) {
	kind, l := uint32(0x00010000), Tables(choose)
	if choose(2) == 0 {
		kind = 0x4f54544f
	}
	s, _ := sfnt.Write(kind, l)
	b := []byte(s[:12+16*len(l)])
	var parts []string
	for _, x := range l {
		parts = append(parts, x.Data+strings.Repeat("\x00", -len(x.Data)&3))
	}
	body, at := scatter(choose, len(b), 4, parts)
	for i := range l {
		set(b, 12+16*i+8, at[i], 4, true)
	}
	return string(b) + body, kind, l
}

// Zip returns an archive whose members are anywhere, and deflated in any way, and these members.
func Zip(choose func(n int) int) (string, []api.Member) {
	l := Members(choose)
	var parts, rows []string
	for _, x := range l {
		local, central := zipped(choose, x)
		parts, rows = append(parts, local), append(rows, central)
	}
	body, at := scatter(choose, 0, 1, parts)
	body += noise(choose, choose(3))
	s, _ := zip.Write(nil)
	end := []byte(s)
	set(end, 8, len(l), 2, false)
	set(end, 10, len(l), 2, false)
	set(end, 12, len(strings.Join(rows, "")), 4, false)
	set(end, 16, len(body), 4, false)
	for i, row := range rows {
		b := []byte(row)
		set(b, 42, at[i], 4, false)
		body += string(b)
	}
	return body + string(end), l
}

// zipped returns the local header of a member with the packed bytes, and the central header.
func zipped(choose func(n int) int, x api.Member) (string, string) {
	s, _ := zip.Write([]api.Member{x})
	packed := x.Data
	if x.Method == 8 {
		packed = deflated(choose, x.Data)
	}
	n := len(x.Name)
	local := []byte(s[:30+n])
	central := []byte(s[len(s)-22-46-n : len(s)-22])
	set(local, 18, len(packed), 4, false)
	set(central, 20, len(packed), 4, false)
	return string(local) + packed, string(central)
}

// deflated is deflated data of any kind.
func deflated(choose func(n int) int, s string) string {
	l := match.Find(s)
	switch choose(4) {
	case 0:
		return deflate.Stored(s)
	case 1:
		f, _ := deflate.Fixed(l)
		return f
	case 2:
		d, _ := deflate.Dynamic(l)
		return d
	}
	return deflate.Deflate(s)
}

// Tar returns an archive whose names may be split where they need not be, and its entries.
func Tar(choose func(n int) int) (string, []api.Entry) {
	l := Entries(choose)
	end, _ := tar.Write(nil)
	s := ""
	for _, x := range l {
		one, _ := tar.Write([]api.Entry{x})
		one = strings.TrimSuffix(one, end)
		if i := strings.LastIndex(x.Name, "/"); i >= 0 && choose(2) == 0 {
			one = split(one, x.Name[:i], x.Name[i+1:])
		}
		s += one
	}
	return s + end, l
}

// split is a header, and what follows it, with another prefix and name.
func split(s string, prefix string, name string) string {
	b := []byte(s)
	clear(b[:100])
	clear(b[345:500])
	copy(b, name)
	copy(b[345:], prefix)
	n, _ := sums.Tar(string(b[:512]))
	digits := strconv.FormatInt(int64(n), 8)
	copy(b[148:], strings.Repeat("0", 6-len(digits))+digits)
	return string(b)
}

// ElfFile returns a file whose parts are anywhere, and its model.
func ElfFile(choose func(n int) int) (string, api.Elf) {
	m := Elf(choose)
	s, _ := elf.Write(m)
	first := 64 + 56*len(m.Segments)
	rows := []byte(s[len(s)-64*(len(m.Sections)+2):])
	parts := []string{s[64:first]}
	for _, x := range m.Sections {
		parts = append(parts, x.Data)
	}
	parts = append(parts, "\x00"+names(m)+".shstrtab\x00")
	body, at := scatter(choose, 64, 1, parts)
	for i := 1; i < len(parts); i++ {
		set(rows, 64*i+24, at[i], 8, false)
	}
	head := []byte(s[:64])
	set(head, 32, at[0], 8, false)
	set(head, 40, 64+len(body), 8, false)
	return string(head) + body + string(rows), m
}

// names are those of all sections, each with a byte 0.
func names(m api.Elf) string {
	s := ""
	for _, x := range m.Sections {
		s += x.Name + "\x00"
	}
	return s
}
