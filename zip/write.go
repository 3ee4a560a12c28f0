package zip

import (
	"strings"

	"mortise/api"
	"mortise/deflate"
	"mortise/sums"
)

const maxArchive = 1<<31 - 1

// pack returns the packed Data of a member.
func pack(x api.Member) string {
	if x.Method == methodDeflated {
		return deflate.Deflate(x.Data)
	}
	return x.Data
}

// isValid tells whether a member is.
func isValid(x api.Member) bool {
	return header{Member: x, size: len(x.Data)}.isValid()
}

// file is a member as it is stored, but for the checksum.
type file struct {
	header
	text string // the packed Data
}

// place returns members with their places in an archive, and its end; false if it would be too long. Nothing is written yet, so that a long archive takes no memory.
func place(l []api.Member) ([]file, end, bool) {
	var files []file
	x := end{members: len(l)}
	for _, m := range l {
		text := pack(m)
		files = append(files, file{header{Member: m, packed: len(text), size: len(m.Data), at: x.centralAt}, text})
		x.centralAt += localWidth + len(m.Name) + len(text)
		x.centralWidth += centralWidth + len(m.Name)
		if x.centralAt+x.centralWidth+endWidth > maxArchive {
			return nil, end{}, false
		}
	}
	return files, x, true
}

// Write returns the archive of some members.
func Write(l []api.Member) (string, api.Errno) {
	if len(l) > maxMembers {
		return "", api.ErrArg
	}
	for _, x := range l {
		if !isValid(x) {
			return "", api.ErrArg
		}
	}
	files, x, ok := place(l)
	if !ok {
		return "", api.ErrArg
	}
	var b, central strings.Builder
	b.Grow(x.centralAt + x.centralWidth + endWidth)
	for _, f := range files {
		f.crc = int(sums.Crc(f.Data))
		b.WriteString(f.local())
		b.WriteString(f.text)
		central.WriteString(f.central())
	}
	b.WriteString(central.String())
	b.WriteString(x.text())
	return b.String(), api.OK
}
