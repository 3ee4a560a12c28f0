package tar

import (
	"strconv"
	"strings"

	"mortise/api"
	"mortise/sums"
)

const blockWidth = 512

// The fields of a header.
const (
	fieldName = iota
	fieldMode
	fieldUid
	fieldGid
	fieldSize
	fieldMtime
	fieldSum
	fieldType
	fieldLink
	fieldMagic
	fieldOwners
	fieldMajor
	fieldMinor
	fieldPrefix
	fieldRest
	fields // how many there are
)

// place is where a field stands in a header.
type place struct {
	at    int
	width int
}

var places = [fields]place{
	fieldName:   {0, 100},
	fieldMode:   {100, 8},
	fieldUid:    {108, 8},
	fieldGid:    {116, 8},
	fieldSize:   {124, 12},
	fieldMtime:  {136, 12},
	fieldSum:    {148, 8},
	fieldType:   {156, 1},
	fieldLink:   {157, 100},
	fieldMagic:  {257, 8},
	fieldOwners: {265, 64},
	fieldMajor:  {329, 8},
	fieldMinor:  {337, 8},
	fieldPrefix: {345, 155},
	fieldRest:   {500, 12},
}

const (
	magic     = "ustar\x0000"
	sumDigits = 6
	sumEnd    = "\x00 "
)

// The types of entries.
const (
	typeFile      = '0'
	typeLink      = '2'
	typeDirectory = '5'
)

// What the fields of a header have room for.
const (
	maxName   = 100 // also of a Link
	maxPrefix = 155
	maxShort  = 1<<21 - 1 // seven octal digits
	maxLong   = 1<<33 - 1 // eleven octal digits
)

// header is what a block tells of an entry, but for its Data, which follow the block.
type header struct {
	api.Entry
	prefix string
	name   string // without the prefix; empty if Name does not fit
	size   int    // of the Data
}

func newHeader(x api.Entry) header {
	prefix, name := split(x.Name)
	return header{Entry: x, prefix: prefix, name: name, size: len(x.Data)}
}

// split returns the prefix and the name that are stored for a Name; nothing if it does not fit.
func split(s string) (string, string) {
	if len(s) <= maxName {
		return "", s
	}
	for i := 1; i <= min(maxPrefix, len(s)-2); i++ {
		if s[i] == '/' && len(s)-1-i <= maxName {
			return s[:i], s[i+1:]
		}
	}
	return "", ""
}

// isText tells whether a string is read as it is stored, up to the first byte 0.
func isText(s string) bool { return !strings.Contains(s, "\x00") }

func isBetween(n int, most int) bool { return n >= 0 && n <= most }

func (h header) isValid() bool {
	return h.name != "" && isText(h.Name) && h.hasType() &&
		isBetween(h.Mode, maxShort) && isBetween(h.Uid, maxShort) && isBetween(h.Gid, maxShort) && isBetween(h.Mtime, maxLong) &&
		len(h.Link) <= maxName && isText(h.Link) && h.size <= maxLong
}

// hasType tells whether there is such a type, and Link and Data are empty if they belong to others.
func (h header) hasType() bool {
	switch h.Type {
	case typeFile:
		return h.Link == ""
	case typeLink:
		return h.Link != "" && h.size == 0
	case typeDirectory:
		return h.Link == "" && h.size == 0
	}
	return false
}

// octal returns a number as octal digits, which must be enough for it.
func octal(n int, digits int) string {
	s := strconv.FormatInt(int64(n), 8)
	return strings.Repeat("0", digits-len(s)) + s
}

func sumOf(block string) int {
	// A block always has as many bytes as the sum asks for.
	n, _ := sums.Tar(block)
	return n
}

// block returns the bytes of a valid header.
func (h header) block() string {
	var b [blockWidth]byte
	// Whatever is left of a field stays 0.
	text := func(field int, s string) {
		p := places[field]
		copy(b[p.at:][:p.width], s)
	}
	number := func(field int, n int) { text(field, octal(n, places[field].width-1)) }
	text(fieldName, h.name)
	number(fieldMode, h.Mode)
	number(fieldUid, h.Uid)
	number(fieldGid, h.Gid)
	number(fieldSize, h.size)
	number(fieldMtime, h.Mtime)
	text(fieldType, string([]byte{h.Type}))
	text(fieldLink, h.Link)
	text(fieldMagic, magic)
	number(fieldMajor, 0)
	number(fieldMinor, 0)
	text(fieldPrefix, h.prefix)
	text(fieldSum, octal(sumOf(string(b[:])), sumDigits)+sumEnd)
	return string(b[:])
}

// part returns the bytes of a field.
func part(block string, field int) string {
	p := places[field]
	return block[p.at:][:p.width]
}

// readSum returns the checksum that a block stores; false if it does not have its form.
func readSum(block string) (int, bool) {
	s, ok := strings.CutSuffix(part(block, fieldSum), sumEnd)
	n, err := strconv.ParseUint(s, 8, 64)
	return int(n), ok && err == nil
}

// readHeader returns what a block tells if it is a header: it is one if what is returned is valid, and has this block.
func readHeader(block string) header {
	text := func(field int) string {
		s, _, _ := strings.Cut(part(block, field), "\x00")
		return strings.Clone(s) // as an entry shares no memory with the archive
	}
	number := func(field int) int {
		// What is no number becomes 0, which has another block.
		n, _ := strconv.ParseUint(part(block, field)[:places[field].width-1], 8, 64)
		return int(n)
	}
	h := header{prefix: text(fieldPrefix), name: text(fieldName), size: number(fieldSize)}
	h.Name = h.name
	if h.prefix != "" {
		h.Name = h.prefix + "/" + h.name
	}
	h.Mode, h.Uid, h.Gid, h.Mtime = number(fieldMode), number(fieldUid), number(fieldGid), number(fieldMtime)
	h.Type, h.Link = part(block, fieldType)[0], text(fieldLink)
	return h
}
