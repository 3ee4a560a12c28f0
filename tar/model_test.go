package tar

import (
	"fmt"
	"math/rand"
	"slices"
	"strconv"
	"strings"
	"testing"

	"mortise/api"
)

func zeros(n int) string { return strings.Repeat("\x00", n) }

// fill pads a text with bytes 0.
func fill(s string, n int) string { return s + zeros(n-len(s)) }

// summed is a block with a correct checksum, whatever it holds.
func summed(block string) string {
	n := 8 * 32
	for i, c := range []byte(block) {
		if i < 148 || i >= 156 {
			n += int(c)
		}
	}
	return block[:148] + fmt.Sprintf("%06o\x00 ", n) + block[156:]
}

// modelBlock is the header of an entry with this prefix, name and length of Data.
func modelBlock(x api.Entry, prefix string, name string, size int) string {
	return summed(fill(name, 100) + fmt.Sprintf("%07o\x00%07o\x00%07o\x00%011o\x00%011o\x00", x.Mode, x.Uid, x.Gid, size, x.Mtime) + zeros(8) +
		string([]byte{x.Type}) + fill(x.Link, 100) + "ustar\x0000" + zeros(64) + "0000000\x000000000\x00" + fill(prefix, 155) + zeros(12))
}

// modelSplit is the prefix and the name of a Name, if it fits.
func modelSplit(s string) (string, string, bool) {
	if len(s) <= 100 {
		return "", s, true
	}
	for i, c := range []byte(s) {
		before, after := s[:i], s[i+1:]
		if c == '/' && len(before) >= 1 && len(before) <= 155 && len(after) >= 1 && len(after) <= 100 {
			return before, after, true
		}
	}
	return "", "", false
}

// modelValid is whether an entry is, if its Name fits.
func modelValid(x api.Entry) bool {
	low := func(n int, digits int) bool { return n >= 0 && n < 1<<(3*digits) }
	return x.Name != "" && !strings.Contains(x.Name, "\x00") && low(x.Mode, 7) && low(x.Uid, 7) && low(x.Gid, 7) && low(x.Mtime, 11) &&
		(x.Type == '0' || x.Type == '2' || x.Type == '5') && len(x.Link) <= 100 && !strings.Contains(x.Link, "\x00") && (x.Link == "") == (x.Type != '2') &&
		(x.Data == "" || x.Type == '0' && low(len(x.Data), 11))
}

// pad is the bytes 0 behind Data.
func pad(n int) string {
	if n%512 == 0 {
		return ""
	}
	return zeros(512 - n%512)
}

// modelWrite is Write as the chapter tells it.
func modelWrite(l []api.Entry) (string, api.Errno) {
	s := ""
	for _, x := range l {
		prefix, name, ok := modelSplit(x.Name)
		if !ok || !modelValid(x) {
			return "", api.ErrArg
		}
		s += modelBlock(x, prefix, name, len(x.Data)) + x.Data + pad(len(x.Data))
	}
	return s + zeros(1024), api.OK
}

const octals = "01234567"

// modelNumber is that of a field; false if it is none.
func modelNumber(s string) (int, bool) {
	digits := s[:len(s)-1]
	n, _ := strconv.ParseInt(digits, 8, 64)
	return int(n), strings.Trim(digits, octals) == "" && s[len(s)-1] == 0
}

// modelText is the string of a field; false if there is something behind it.
func modelText(s string) (string, bool) {
	text, rest, _ := strings.Cut(s, "\x00")
	return text, strings.Trim(rest, "\x00") == ""
}

// modelHeader is the entry of a header, and the length of its Data; false if it is none of a valid entry.
func modelHeader(b string) (x api.Entry, size int, good bool) {
	good = true
	also := func(ok bool) { good = good && ok }
	number := func(at int, n int) int {
		v, ok := modelNumber(b[at : at+n])
		also(ok)
		return v
	}
	text := func(at int, n int) string {
		v, ok := modelText(b[at : at+n])
		also(ok)
		return v
	}
	x.Name = text(0, 100)
	also(x.Name != "")
	x.Mode, x.Uid, x.Gid, size, x.Mtime = number(100, 8), number(108, 8), number(116, 8), number(124, 12), number(136, 12)
	x.Type, x.Link = b[156], text(157, 100)
	also(b[257:265] == "ustar\x0000" && b[265:329] == zeros(64) && b[329:337] == "0000000\x00" && b[337:345] == "0000000\x00" && b[500:] == zeros(12))
	if prefix := text(345, 155); prefix != "" {
		x.Name = prefix + "/" + x.Name
	}
	also(modelValid(x) && (size == 0 || x.Type == '0'))
	return x, size, good
}

// modelSum is whether the checksum of a header has its form, and whether it is correct.
func modelSum(b string) (bool, bool) {
	s := b[148:156]
	return strings.Trim(s[:6], octals) == "" && s[6:] == "\x00 ", summed(b) == b
}

// modelRead is Read as the chapter tells it.
func modelRead(s string) ([]api.Entry, api.Errno) {
	var l []api.Entry
	for {
		if len(s) < 512 {
			return nil, api.ErrCut
		}
		b := s[:512]
		s = s[512:]
		if b == zeros(512) {
			break
		}
		form, correct := modelSum(b)
		if !form {
			return nil, api.ErrForm
		}
		if !correct {
			return nil, api.ErrSum
		}
		x, n, ok := modelHeader(b)
		if !ok {
			return nil, api.ErrForm
		}
		if len(s) < n+len(pad(n%512)) {
			return nil, api.ErrCut
		}
		x.Data = s[:n]
		s = s[n:]
		if !strings.HasPrefix(s, pad(n%512)) {
			return nil, api.ErrForm
		}
		s = s[len(pad(n%512)):]
		l = append(l, x)
	}
	if len(s) < 512 {
		return nil, api.ErrCut
	}
	if s != zeros(512) {
		return nil, api.ErrForm
	}
	return l, api.OK
}

// sameRead holds Read against the model.
func sameRead(t *testing.T, s string) api.Errno {
	t.Helper()
	l, e := Read(s)
	want, f := modelRead(s)
	if !slices.Equal(l, want) || e != f {
		t.Errorf("%.600q: %.200v, %d, not %.200v, %d", s, l, e, want, f)
	}
	return e
}

// sameWrite holds Write against the model, and reads again what is written.
func sameWrite(t *testing.T, l []api.Entry) (string, api.Errno) {
	t.Helper()
	s, e := Write(l)
	want, f := modelWrite(l)
	if s != want || e != f {
		t.Errorf("%.200v: %.600q, %d, not %.600q, %d", l, s, e, want, f)
	}
	if e == api.OK {
		if m, e := Read(s); !slices.Equal(m, l) || e != api.OK { // P18.3
			t.Errorf("%.200v: %.200v, %d", l, m, e)
		}
	}
	return s, e
}

// words is n bytes without a byte 0.
func words(random *rand.Rand, n int) string {
	b := make([]byte, n)
	for i := range b {
		b[i] = byte(1 + random.Intn(255))
	}
	return string(b)
}

// numeral is one of so many octal digits, often the least or the greatest one.
func numeral(random *rand.Rand, digits int) int {
	most := 1<<(3*digits) - 1
	return []int{0, most, most / 8, random.Intn(512), random.Intn(most + 1)}[random.Intn(5)]
}

// randomEntry is a valid one.
func randomEntry(random *rand.Rand) api.Entry {
	x := api.Entry{Name: words(random, 1+random.Intn(100)), Mode: numeral(random, 7), Uid: numeral(random, 7), Gid: numeral(random, 7), Mtime: numeral(random, 11), Type: "0025"[random.Intn(4)]}
	if random.Intn(3) == 0 {
		x.Name = words(random, 1+random.Intn(155)) + "/" + words(random, 1+random.Intn(100))
	}
	if x.Type == '2' {
		x.Link = words(random, 1+random.Intn(100))
	}
	if x.Type == '0' {
		x.Data = words(random, []int{0, 1, 511, 512, 513, 1024, random.Intn(3000)}[random.Intn(7)])
	}
	return x
}
