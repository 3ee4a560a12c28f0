package samples

import (
	"strings"

	"mortise/api"
)

const mostParts = 4 // of a model

// noise is any bytes.
func noise(choose func(n int) int, n int) string {
	b := make([]byte, n)
	for i := range b {
		b[i] = byte(choose(256))
	}
	return string(b)
}

// letters is a word of letters.
func letters(choose func(n int) int, n int) string {
	b := make([]byte, n)
	for i := range b {
		b[i] = byte('A' + choose(26) + 32*choose(2))
	}
	return string(b)
}

// data is bytes of which more or less can be told in fewer ones.
func data(choose func(n int) int) string {
	s := noise(choose, choose(20))
	if choose(2) == 0 {
		return strings.Repeat(s, choose(20))
	}
	return s
}

// Chunks returns any ones whose types are letters.
func Chunks(choose func(n int) int) []api.Chunk {
	var l []api.Chunk
	for range choose(mostParts + 1) {
		l = append(l, api.Chunk{Type: letters(choose, 4), Data: data(choose)})
	}
	return l
}

// Sound returns a valid sound.
func Sound(choose func(n int) int) api.Sound {
	m := api.Sound{Channels: 1 + choose(16), Rate: 1 + choose(1<<24), Bits: 8 * (1 + choose(4)), More: Chunks(choose)}
	m.Frames = noise(choose, choose(4)*m.Channels*m.Bits/8)
	return m
}

// Entries returns valid ones, whose names may be long, and have slashes.
func Entries(choose func(n int) int) []api.Entry {
	var l []api.Entry
	for range choose(mostParts + 1) {
		x := api.Entry{Name: letters(choose, 1+choose(90)), Mode: choose(1 << 21), Uid: choose(1 << 21), Gid: choose(1 << 21), Mtime: choose(1 << 31), Type: "025"[choose(3)]}
		for range choose(3) {
			x.Name = letters(choose, 1+choose(40)) + "/" + x.Name
		}
		switch x.Type {
		case '0':
			x.Data = strings.Repeat(data(choose), 1+choose(3))
		case '2':
			x.Link = letters(choose, 1+choose(100))
		}
		l = append(l, x)
	}
	return l
}

// Members returns valid ones.
func Members(choose func(n int) int) []api.Member {
	var l []api.Member
	for range choose(mostParts + 1) {
		l = append(l, api.Member{Name: noise(choose, 1+choose(9)), Method: 8 * choose(2), Time: choose(1 << 32), Data: data(choose)})
	}
	return l
}

// Tables returns valid ones, at least one of them.
func Tables(choose func(n int) int) []api.Table {
	var l []api.Table
	for i := range 1 + choose(mostParts) {
		l = append(l, api.Table{Tag: string([]byte{byte(' ' + 20*i + choose(20))}) + letters(choose, 3), Data: data(choose)})
	}
	return l
}

// leastElf is how many bytes an ELF file has that was written.
const leastElf = 208

// Elf returns a valid model, whose segments have bytes that any file of it has.
func Elf(choose func(n int) int) api.Elf {
	m := api.Elf{Type: choose(1 << 16), Machine: choose(1 << 16), Entry: uint64(choose(1 << 40)), Flags: choose(1 << 32)}
	for range choose(mostParts) {
		x := api.Segment{Type: choose(1 << 32), Flags: choose(1 << 32), Vaddr: uint64(choose(1 << 40)), Paddr: uint64(choose(1 << 40)), Memsz: uint64(choose(1 << 40)), Align: uint64(choose(1 << 40))}
		x.Offset = choose(leastElf + 1)
		x.Filesz = choose(leastElf + 1 - x.Offset)
		m.Segments = append(m.Segments, x)
	}
	for range choose(mostParts + 1) {
		x := api.Section{Name: letters(choose, choose(9)), Type: choose(10), Flags: uint64(choose(1 << 40)), Addr: uint64(choose(1 << 40)), Link: choose(1 << 32), Info: choose(1 << 32), Align: uint64(choose(1 << 40)), Each: uint64(choose(1 << 40))}
		if x.Type == 8 {
			x.Size = choose(1 << 40)
		} else {
			x.Data = data(choose)
		}
		m.Sections = append(m.Sections, x)
	}
	return m
}
