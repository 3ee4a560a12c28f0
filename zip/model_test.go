package zip

import (
	"bytes"
	"encoding/binary"
	"hash/crc32"
	"math/rand"
	"slices"
	"strings"
	"testing"

	"mortise/api"
	"mortise/deflate"
	"mortise/inflate"
)

// top is the numbers of a local header, whatever they say.
type top struct {
	Mark                    uint32
	Version, Flags, Method  uint16
	Time, Crc, Packed, Size uint32
	Name, Extra             uint16
}

// row is those of a central header.
type row struct {
	Mark                    uint32
	Made                    uint16
	Version, Flags, Method  uint16
	Time, Crc, Packed, Size uint32
	Name, Extra             uint16
	Comment, Disk, Inner    uint16
	Outer, At               uint32
}

// tail is those of an end.
type tail struct {
	Mark       uint32
	Disk, From uint16
	Here, All  uint16
	Width, At  uint32
	Comment    uint16
}

// stored is any of these as it is stored.
func stored(x any) string {
	var b bytes.Buffer
	if err := binary.Write(&b, binary.LittleEndian, x); err != nil {
		panic(err)
	}
	return b.String()
}

// load fills any of these from bytes.
func load(s string, x any) {
	if err := binary.Read(strings.NewReader(s), binary.LittleEndian, x); err != nil {
		panic(err)
	}
}

// part is a member with its headers, whatever they say.
type part struct {
	top
	row
	name   string // behind the local header
	other  string // behind the central header
	packed string
}

// partOf is the part of a member with such packed Data.
func partOf(x api.Member, packed string) part {
	p := part{name: x.Name, other: x.Name, packed: packed}
	p.top = top{Mark: 0x04034b50, Version: 20, Method: uint16(x.Method), Time: uint32(x.Time), Crc: crc32.ChecksumIEEE([]byte(x.Data)), Packed: uint32(len(packed)), Size: uint32(len(x.Data)), Name: uint16(len(x.Name))}
	p.agree()
	return p
}

// agree makes the central header say what the local one says.
func (p *part) agree() {
	at := p.row.At
	p.row = row{Mark: 0x02014b50, Made: 20, Version: p.top.Version, Flags: p.top.Flags, Method: p.top.Method, Time: p.top.Time, Crc: p.top.Crc, Packed: p.top.Packed, Size: p.top.Size, Name: p.top.Name, Extra: p.top.Extra, At: at}
}

func (p part) local() string { return stored(p.top) + p.name + p.packed }

func (p part) central() string { return stored(p.row) + p.other }

// plan is an archive, whatever it says.
type plan struct {
	body string
	rest string // the central headers
	tail
}

func (p plan) file() string { return p.body + p.rest + stored(p.tail) }

// ended is a plan with the end that is right for it.
func ended(body string, rest string, n int) plan {
	return plan{body, rest, tail{Mark: 0x06054b50, Here: uint16(n), All: uint16(n), Width: uint32(len(rest)), At: uint32(len(body))}}
}

// planOf is that of some parts, one behind the other, whose offsets are set.
func planOf(l ...part) plan {
	body, rest := "", ""
	for _, p := range l {
		p.row.At = uint32(len(body))
		body += p.local()
		rest += p.central()
	}
	return ended(body, rest, len(l))
}

// span is bytes that are in use.
type span struct{ lo, hi int }

// model is what Read knows on its way.
type model struct {
	s     string // without the end
	first int    // the offset of the central headers
	at    int    // that of the next one
	limit int
	used  []span
}

// row reads the next central header.
func (m *model) row() (row, string, api.Errno) {
	var x row
	if len(m.s)-m.at < 46 {
		return x, "", api.ErrCut
	}
	load(m.s[m.at:], &x)
	hi := m.at + 46 + int(x.Name)
	if hi > len(m.s) {
		return x, "", api.ErrCut
	}
	name := m.s[m.at+46 : hi]
	m.at = hi
	good := x.Mark == 0x02014b50 && x.Made == 20 && x.Version == 20 && x.Flags == 0 && x.Extra == 0 && x.Comment == 0 && x.Disk == 0 && x.Inner == 0 && x.Outer == 0
	if !good || x.Name == 0 || x.Method != 0 && x.Method != 8 || x.Size >= 1<<31 {
		return x, "", api.ErrForm
	}
	return x, name, api.OK
}

// packed finds the packed Data.
func (m *model) packed(x row, name string) (string, api.Errno) {
	data := int(x.At) + 30 + len(name)
	hi := data + int(x.Packed)
	if hi > m.first {
		return "", api.ErrCut
	}
	want := top{0x04034b50, 20, 0, x.Method, x.Time, x.Crc, x.Packed, x.Size, x.Name, 0}
	if m.s[x.At:data] != stored(want)+name {
		return "", api.ErrForm
	}
	for _, u := range m.used {
		if max(u.lo, int(x.At)) < min(u.hi, hi) {
			return "", api.ErrOverlap
		}
	}
	m.used = append(m.used, span{int(x.At), hi})
	return m.s[data:hi], api.OK
}

func (m *model) data(x row, packed string) (string, api.Errno) {
	data := packed
	if m.limit -= int(x.Size); m.limit < 0 {
		return "", api.ErrLimit
	}
	if x.Method == 0 && x.Packed != x.Size {
		return "", api.ErrForm
	}
	if x.Method == 8 {
		s, n, e := inflate.Inflate(packed, int(x.Size))
		if e == api.ErrLimit || e == api.OK && (n != len(packed) || len(s) != int(x.Size)) {
			return "", api.ErrForm
		}
		if e != api.OK {
			return "", e
		}
		data = s
	}
	if crc32.ChecksumIEEE([]byte(data)) != x.Crc {
		return "", api.ErrSum
	}
	return data, api.OK
}

// modelRead is Read as the chapter tells it.
func modelRead(s string, limit int) ([]api.Member, api.Errno) {
	if limit < 0 || limit > 1<<30 {
		return nil, api.ErrArg
	}
	if len(s) < 22 {
		return nil, api.ErrCut
	}
	var x tail
	at := len(s) - 22
	load(s[at:], &x)
	if x.Mark != 0x06054b50 || x.Disk != 0 || x.From != 0 || x.Here != x.All || x.Comment != 0 || int(x.At)+int(x.Width) != at {
		return nil, api.ErrForm
	}
	m := &model{s: s[:at], first: int(x.At), at: int(x.At), limit: limit}
	var l []api.Member
	for range x.All {
		x, name, e := m.row()
		if e != api.OK {
			return nil, e
		}
		packed, e := m.packed(x, name)
		if e != api.OK {
			return nil, e
		}
		data, e := m.data(x, packed)
		if e != api.OK {
			return nil, e
		}
		l = append(l, api.Member{Name: name, Method: int(x.Method), Time: int(x.Time), Data: data})
	}
	if m.at != at {
		return nil, api.ErrForm
	}
	return l, api.OK
}

func goodMember(x api.Member) bool {
	return len(x.Name) > 0 && len(x.Name) < 65536 && (x.Method == 0 || x.Method == 8) && x.Time >= 0 && x.Time < 1<<32
}

// modelWrite is Write as the chapter tells it, if Data and the archive are not too long.
func modelWrite(l []api.Member) (string, api.Errno) {
	if len(l) >= 65536 {
		return "", api.ErrArg
	}
	var all []part
	for _, x := range l {
		if !goodMember(x) {
			return "", api.ErrArg
		}
		packed := x.Data
		if x.Method == 8 {
			packed = deflate.Deflate(x.Data)
		}
		all = append(all, partOf(x, packed))
	}
	return planOf(all...).file(), api.OK
}

// sameRead holds Read against the model.
func sameRead(t *testing.T, s string, limit int) api.Errno {
	t.Helper()
	l, e := Read(s, limit)
	want, f := modelRead(s, limit)
	if !slices.Equal(l, want) || e != f || e != api.OK && l != nil {
		t.Errorf("%.500q, %d: %v, %d, not %v, %d", s, limit, l, e, want, f)
	}
	return e
}

// sizeOf is how many bytes all Data have.
func sizeOf(l []api.Member) int {
	n := 0
	for _, x := range l {
		n += len(x.Data)
	}
	return n
}

// sameWrite holds Write against the model, and reads again what is written.
func sameWrite(t *testing.T, l []api.Member) (string, api.Errno) {
	t.Helper()
	s, e := Write(l)
	want, f := modelWrite(l)
	if s != want || e != f {
		t.Errorf("%v: %.500q, %d, not %.500q, %d", l, s, e, want, f)
	}
	if e == api.OK {
		if m, e := Read(s, sizeOf(l)); !slices.Equal(m, l) || e != api.OK { // P21.3
			t.Errorf("%v: %v, %d", l, m, e)
		}
	}
	return s, e
}

const enough = 1 << 20

func reads(t *testing.T, s string, e api.Errno) {
	t.Helper()
	if l, f := Read(s, enough); f != e {
		t.Errorf("%.500q: %v, %d, not %d", s, l, f, e)
	}
	sameRead(t, s, enough)
}

func writes(t *testing.T, l []api.Member, e api.Errno) {
	t.Helper()
	if _, f := sameWrite(t, l); f != e {
		t.Errorf("%v: %d, not %d", l, f, e)
	}
}

// change is s with other bytes from an offset on.
func change(s string, at int, with string) string { return s[:at] + with + s[at+len(with):] }

func octet(c int) string { return string([]byte{byte(c)}) }

func le16(n int) string { return string(binary.LittleEndian.AppendUint16(nil, uint16(n))) }

func le32(n int) string { return string(binary.LittleEndian.AppendUint32(nil, uint32(n))) }

func noise(random *rand.Rand, n int) string {
	b := make([]byte, n)
	random.Read(b)
	return string(b)
}

// randomMember is a valid one.
func randomMember(random *rand.Rand) api.Member {
	x := api.Member{Name: noise(random, 1+random.Intn(9)), Method: 8 * random.Intn(2), Time: int(random.Uint32())}
	if x.Data = noise(random, random.Intn(20)); random.Intn(2) == 0 {
		x.Data = strings.Repeat(x.Data, random.Intn(20))
	}
	return x
}

func randomMembers(random *rand.Rand) []api.Member {
	var l []api.Member
	for range random.Intn(5) {
		l = append(l, randomMember(random))
	}
	return l
}

// randomPart is a part of a member, deflated in any way.
func randomPart(random *rand.Rand) part {
	x := randomMember(random)
	packed := x.Data
	if x.Method == 8 {
		packed = []string{deflate.Deflate(x.Data), deflate.Stored(x.Data)}[random.Intn(2)]
	}
	return partOf(x, packed)
}

// randomPlan is an archive of parts that lie in any order with gaps, be they good or not.
func randomPlan(random *rand.Rand, l []part) plan {
	body := ""
	for _, i := range random.Perm(len(l)) {
		body += noise(random, random.Intn(3)*random.Intn(4))
		l[i].row.At += uint32(len(body))
		body += l[i].local()
	}
	body += noise(random, random.Intn(3))
	rest := ""
	for _, p := range l {
		rest += p.central()
	}
	return ended(body, rest, len(l))
}
