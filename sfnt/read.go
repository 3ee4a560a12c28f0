package sfnt

import (
	"strings"

	"mortise/api"
	"mortise/regions"
	"mortise/sums"
	"mortise/win"
)

// leadOf returns the kind of a font, and how many tables it has.
func leadOf(w win.Window) (uint32, int, api.Errno) {
	first, e := w.Sub(0, leadWidth)
	if e != api.OK {
		return 0, 0, e
	}
	k, _ := first.Uint(0, 4, true)
	c, _ := first.Uint(4, 2, true)
	kind, n := uint32(k), int(c)
	if !isKind(kind) || !isCount(n) || first.Text() != lead(kind, n) {
		return 0, 0, api.ErrForm
	}
	return kind, n, api.OK
}

// entryAt returns the entry that begins at an offset of a window, which must have its bytes.
func entryAt(w win.Window, at int) entry {
	number := func(place int) int {
		n, _ := w.Uint(at+4*place, 4, true)
		return int(n)
	}
	return entry{tag: w.Text()[at : at+tagWidth], sum: uint32(number(1)), at: number(2), n: number(3)}
}

// reader reads the tables of a font in their order.
type reader struct {
	win.Window // all bytes of the font
	claimed    *regions.Set[struct{}]
	tag        string // of the table ahead
	all        int    // how many bytes the Data so far take
}

// claim keeps bytes from being those of another table, too.
func (r *reader) claim(at int, n int) api.Errno {
	if n == 0 {
		return api.OK
	}
	return r.claimed.Add(at, at+n, struct{}{})
}

// table returns the table of an entry, which still shares its memory with the font.
func (r *reader) table(x entry) (api.Table, api.Errno) {
	if !isTag(x.tag) || x.tag <= r.tag || x.at%boundary != 0 || x.n > maxData {
		return api.Table{}, api.ErrForm
	}
	w, e := r.Sub(x.at, padded(x.n))
	if e != api.OK {
		return api.Table{}, e
	}
	data, padding := w.Text()[:x.n], w.Text()[x.n:]
	if strings.Count(padding, "\x00") != len(padding) {
		return api.Table{}, api.ErrForm
	}
	if e := r.claim(x.at, w.Len()); e != api.OK {
		return api.Table{}, e
	}
	if sums.Words(data) != x.sum {
		return api.Table{}, api.ErrSum
	}
	r.tag = x.tag
	r.all += w.Len()
	return api.Table{Tag: x.tag, Data: data}, api.OK
}

// tables returns the n tables of a font.
func tables(w win.Window, n int) ([]api.Table, api.Errno) {
	directory, e := w.Sub(leadWidth, n*entryWidth)
	if e != api.OK {
		return nil, e
	}
	r := &reader{Window: w, claimed: regions.New[struct{}]()}
	// The first bytes that are claimed can't overlap others.
	r.claim(0, leadWidth+directory.Len())
	l := make([]api.Table, n)
	for i := range l {
		l[i], e = r.table(entryAt(directory, i*entryWidth))
		if e != api.OK {
			return nil, e
		}
	}
	if r.all > maxAll {
		return nil, api.ErrForm
	}
	return l, api.OK
}

// Read returns the kind and the tables of a font.
func Read(s string) (uint32, []api.Table, api.Errno) {
	w := win.Of(s)
	kind, n, e := leadOf(w)
	if e != api.OK {
		return 0, nil, e
	}
	l, e := tables(w, n)
	if e != api.OK {
		return 0, nil, e
	}
	for i, x := range l {
		l[i] = api.Table{Tag: strings.Clone(x.Tag), Data: strings.Clone(x.Data)}
	}
	return kind, l, api.OK
}
