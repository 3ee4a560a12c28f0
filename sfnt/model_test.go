package sfnt

import (
	"encoding/binary"
	"math/bits"
	"math/rand"
	"slices"
	"strings"
	"testing"

	"mortise/api"
)

func be16(n int) string { return string(binary.BigEndian.AppendUint16(nil, uint16(n))) }

func be32(n int) string { return string(binary.BigEndian.AppendUint32(nil, uint32(n))) }

func int16At(s string, at int) int { return int(binary.BigEndian.Uint16([]byte(s[at:]))) }

func int32At(s string, at int) int { return int(binary.BigEndian.Uint32([]byte(s[at:]))) }

// The kinds.
const (
	plain = 0x10000
	otto  = 0x4f54544f
)

// head is the first bytes of a font with n tables.
func head(kind int, n int) string {
	e := bits.Len(uint(n)) - 1
	p := 1 << e
	return be32(kind) + be16(n) + be16(16*p) + be16(e) + be16(16*(n-p))
}

// round is s with bytes 0 up to a multiple of 4.
func round(s string) string { return s + "\x00\x00\x00"[:(4-len(s)%4)%4] }

func wordsOf(s string) int {
	sum := 0
	for s = round(s); s != ""; s = s[4:] {
		sum += int32At(s, 0)
	}
	return sum % (1 << 32)
}

// row is what is stored of a table ahead of all Data, whatever it says.
type row struct {
	tag string
	sum int
	at  int
	n   int
}

// rows is that of several tables.
func rows(l ...row) string {
	s := ""
	for _, x := range l {
		s += x.tag + be32(x.sum) + be32(x.at) + be32(x.n)
	}
	return s
}

// font is one with such rows, and whatever follows them.
func font(rest string, l ...row) string { return head(plain, len(l)) + rows(l...) + rest }

func goodTag(s string) bool {
	good := 0
	for _, c := range []byte(s) {
		if c > 31 && c < 127 {
			good++
		}
	}
	return len(s) == 4 && good == 4
}

// span is bytes that are in use.
type span struct{ lo, hi int }

// modelTable is what Read returns for a row, behind one with such a Tag, where some bytes are in use.
func modelTable(s string, x row, tag string, used []span) (api.Table, api.Errno) {
	if !goodTag(x.tag) || tag != "" && x.tag <= tag {
		return api.Table{}, api.ErrForm
	}
	if x.at%4 != 0 || x.n > 16777216 {
		return api.Table{}, api.ErrForm
	}
	hi := x.at + (x.n+3)/4*4
	if x.at > len(s) || hi > len(s) {
		return api.Table{}, api.ErrCut
	}
	if s[x.at:hi] != round(s[x.at:x.at+x.n]) {
		return api.Table{}, api.ErrForm
	}
	for _, u := range used {
		if x.n > 0 && max(u.lo, x.at) < min(u.hi, hi) {
			return api.Table{}, api.ErrOverlap
		}
	}
	if wordsOf(s[x.at:hi]) != x.sum {
		return api.Table{}, api.ErrSum
	}
	return api.Table{Tag: x.tag, Data: s[x.at : x.at+x.n]}, api.OK
}

// modelRead is Read as the chapter tells it, but for its last error.
func modelRead(s string) (uint32, []api.Table, api.Errno) {
	if len(s) < 12 {
		return 0, nil, api.ErrCut
	}
	kind, n := int32At(s, 0), int16At(s, 4)
	if kind != plain && kind != otto || n < 1 || n > 1000 || s[:12] != head(kind, n) {
		return 0, nil, api.ErrForm
	}
	if len(s) < 12+16*n {
		return 0, nil, api.ErrCut
	}
	used := []span{{0, 12 + 16*n}}
	tag := ""
	var l []api.Table
	for i := range n {
		at := 12 + 16*i
		x := row{s[at : at+4], int32At(s, at+4), int32At(s, at+8), int32At(s, at+12)}
		y, e := modelTable(s, x, tag, used)
		if e != api.OK {
			return 0, nil, e
		}
		tag = x.tag
		used = append(used, span{x.at, x.at + (x.n+3)/4*4})
		l = append(l, y)
	}
	return uint32(kind), l, api.OK
}

// goodTables is whether tables are valid, if they are not too long together.
func goodTables(l []api.Table) bool {
	if len(l) < 1 || len(l) > 1000 {
		return false
	}
	for i, x := range l {
		if !goodTag(x.Tag) || i > 0 && x.Tag <= l[i-1].Tag || len(x.Data) > 16777216 {
			return false
		}
	}
	return true
}

// modelWrite is Write as the chapter tells it.
func modelWrite(kind uint32, l []api.Table) (string, api.Errno) {
	if kind != plain && kind != otto || !goodTables(l) {
		return "", api.ErrArg
	}
	var all []row
	rest := ""
	for _, x := range l {
		all = append(all, row{x.Tag, wordsOf(x.Data), 12 + 16*len(l) + len(rest), len(x.Data)})
		rest += round(x.Data)
	}
	return head(int(kind), len(l)) + rows(all...) + rest, api.OK
}

// sameRead holds Read against the model.
func sameRead(t *testing.T, s string) api.Errno {
	t.Helper()
	kind, l, e := Read(s)
	wantKind, want, f := modelRead(s)
	if kind != wantKind || !slices.Equal(l, want) || e != f || e != api.OK && l != nil {
		t.Errorf("%.300q: %x, %.300q, %d, not %x, %.300q, %d", s, kind, l, e, wantKind, want, f)
	}
	return e
}

// sameWrite holds Write against the model, and reads again what is written.
func sameWrite(t *testing.T, kind uint32, l []api.Table) (string, api.Errno) {
	t.Helper()
	s, e := Write(kind, l)
	want, f := modelWrite(kind, l)
	if s != want || e != f {
		t.Errorf("%x, %.300q: %.300q, %d, not %.300q, %d", kind, l, s, e, want, f)
	}
	if e == api.OK {
		if k, m, e := Read(s); k != kind || !slices.Equal(m, l) || e != api.OK { // P22.3
			t.Errorf("%x, %.300q: %x, %.300q, %d", kind, l, k, m, e)
		}
	}
	return s, e
}

func reads(t *testing.T, s string, e api.Errno) {
	t.Helper()
	if kind, l, f := Read(s); f != e {
		t.Errorf("%.300q: %x, %.300q, %d, not %d", s, kind, l, f, e)
	}
	sameRead(t, s)
}

func writes(t *testing.T, kind uint32, l []api.Table, e api.Errno) {
	t.Helper()
	if _, f := sameWrite(t, kind, l); f != e {
		t.Errorf("%x, %.300q: %d, not %d", kind, l, f, e)
	}
}

// change is s with other bytes from an offset on.
func change(s string, at int, with string) string { return s[:at] + with + s[at+len(with):] }

func octet(c int) string { return string([]byte{byte(c)}) }

func zeros(n int) string { return strings.Repeat("\x00", n) }

func noise(random *rand.Rand, n int) string {
	b := make([]byte, n)
	random.Read(b)
	return string(b)
}

// randomTables are valid ones.
func randomTables(random *rand.Rand) []api.Table {
	tags := map[string]bool{}
	for range 1 + random.Intn(6) {
		b := make([]byte, 4)
		for i := range b {
			b[i] = byte([]int{' ', '~', 'a', 32 + random.Intn(95)}[random.Intn(4)])
		}
		tags[string(b)] = true
	}
	var l []api.Table
	for tag := range tags {
		l = append(l, api.Table{Tag: tag})
	}
	slices.SortFunc(l, func(x api.Table, y api.Table) int { return strings.Compare(x.Tag, y.Tag) })
	for i := range l {
		l[i].Data = noise(random, random.Intn(3)*random.Intn(10))
	}
	return l
}

// randomPlan is the rows of a font whose Data lie in any order with gaps, and what follows the rows.
func randomPlan(random *rand.Rand) (string, []row) {
	l := randomTables(random)
	all := make([]row, len(l))
	rest := ""
	for _, i := range random.Perm(len(l)) {
		rest += noise(random, 4*random.Intn(2))
		x := l[i]
		all[i] = row{x.Tag, wordsOf(x.Data), 12 + 16*len(l) + len(rest), len(x.Data)}
		rest += round(x.Data)
	}
	return rest + noise(random, random.Intn(3)), all
}
