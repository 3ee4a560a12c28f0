package sfnt

import (
	"strings"

	"mortise/api"
	"mortise/sums"
)

// Write returns the font of a kind with some tables.
func Write(kind uint32, l []api.Table) (string, api.Errno) {
	if !isKind(kind) || !areValid(l) {
		return "", api.ErrArg
	}
	var b strings.Builder
	b.WriteString(lead(kind, len(l)))
	at := leadWidth + len(l)*entryWidth
	for _, x := range l {
		n := len(x.Data)
		b.WriteString(entry{tag: x.Tag, sum: sums.Words(x.Data), at: at, n: n}.text())
		at += padded(n)
	}
	b.Grow(at - b.Len())
	for _, x := range l {
		n := len(x.Data)
		b.WriteString(x.Data)
		b.WriteString(strings.Repeat("\x00", padded(n)-n))
	}
	return b.String(), api.OK
}
