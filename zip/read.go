package zip

import (
	"strings"

	"mortise/api"
	"mortise/inflate"
	"mortise/regions"
	"mortise/sums"
	"mortise/win"
)

const maxLimit = 1 << 30

// reader reads the members of an archive in the order of their central headers.
type reader struct {
	body    win.Window // the bytes ahead of the central headers
	central win.Window // the central headers
	at      int        // of the next one of these
	limit   int        // how many bytes the Data that are to come may have
	claimed *regions.Set[struct{}]
}

// endOf returns what the end of an archive tells.
func endOf(w win.Window) (end, api.Errno) {
	at := w.Len() - endWidth
	if at < 0 {
		return end{}, api.ErrCut
	}
	last, _ := w.Sub(at, endWidth)
	n := endWidths.numbers(last)
	x := end{members: n[placeMembers], centralWidth: n[placeCentralWidth], centralAt: n[placeCentralAt]}
	if x.text() != last.Text() || x.centralAt+x.centralWidth != at {
		return end{}, api.ErrForm
	}
	return x, api.OK
}

// newReader returns a reader of all members of an archive, and how many there are.
func newReader(w win.Window, limit int) (*reader, int, api.Errno) {
	x, e := endOf(w)
	if e != api.OK {
		return nil, 0, e
	}
	// The end tells where both parts are, so that they always exist.
	body, _ := w.Sub(0, x.centralAt)
	central, _ := w.Sub(x.centralAt, x.centralWidth)
	return &reader{body: body, central: central, limit: limit, claimed: regions.New[struct{}]()}, x.members, api.OK
}

// header reads the next central header.
func (r *reader) header() (header, api.Errno) {
	w, e := r.central.Sub(r.at, centralWidth)
	if e != api.OK {
		return header{}, e
	}
	n := centralWidths.numbers(w)
	w, e = r.central.Sub(r.at, centralWidth+n[placeName])
	if e != api.OK {
		return header{}, e
	}
	h := header{crc: n[placeCrc], packed: n[placePacked], size: n[placeSize], at: n[placeAt]}
	// A copy, as a member shares no memory with the archive.
	h.Name, h.Method, h.Time = strings.Clone(w.Text()[centralWidth:]), n[placeMethod], n[placeTime]
	if !h.isValid() || h.central() != w.Text() {
		return header{}, api.ErrForm
	}
	r.at += w.Len()
	return h, api.OK
}

// packed returns the packed Data of a member, and claims them and their local header for it.
func (r *reader) packed(h header) (string, api.Errno) {
	local := h.local()
	w, e := r.body.Sub(h.at, len(local)+h.packed)
	if e != api.OK {
		return "", e
	}
	packed, ok := strings.CutPrefix(w.Text(), local)
	if !ok {
		return "", api.ErrForm
	}
	if e := r.claimed.Add(h.at, h.at+w.Len(), struct{}{}); e != api.OK {
		return "", e
	}
	return packed, api.OK
}

// data returns the Data of a member.
func (h header) data(packed string) (string, api.Errno) {
	if h.Method == methodStored {
		if h.packed != h.size {
			return "", api.ErrForm
		}
		return strings.Clone(packed), api.OK
	}
	data, took, e := inflate.Inflate(packed, h.size)
	switch {
	case e == api.ErrLimit:
		return "", api.ErrForm
	case e != api.OK:
		return "", e
	case took != len(packed) || len(data) != h.size:
		return "", api.ErrForm
	}
	return data, api.OK
}

// member reads the next member.
func (r *reader) member() (api.Member, api.Errno) {
	h, e := r.header()
	if e != api.OK {
		return api.Member{}, e
	}
	packed, e := r.packed(h)
	if e != api.OK {
		return api.Member{}, e
	}
	if h.size > r.limit {
		return api.Member{}, api.ErrLimit
	}
	r.limit -= h.size
	h.Data, e = h.data(packed)
	if e != api.OK {
		return api.Member{}, e
	}
	if int(sums.Crc(h.Data)) != h.crc {
		return api.Member{}, api.ErrSum
	}
	return h.Member, api.OK
}

// Read returns the members of an archive, whose Data have at most limit bytes.
func Read(s string, limit int) ([]api.Member, api.Errno) {
	if limit < 0 || limit > maxLimit {
		return nil, api.ErrArg
	}
	r, n, e := newReader(win.Of(s), limit)
	if e != api.OK {
		return nil, e
	}
	var l []api.Member
	for range n {
		x, e := r.member()
		if e != api.OK {
			return nil, e
		}
		l = append(l, x)
	}
	if r.at != r.central.Len() {
		return nil, api.ErrForm
	}
	return l, api.OK
}
