package zlib

import (
	"bytes"
	other "compress/zlib"
	"hash/adler32"
	"io"
	"math"
	"math/rand"
	"strings"
	"testing"

	"mortise/api"
	"mortise/deflate"
	"mortise/inflate"
)

const most = 1 << 30

// empty is the empty string, deflated, with its sum.
const empty = "\x03\x00\x00\x00\x00\x01"

func sumOf(s string) string {
	n := adler32.Checksum([]byte(s))
	return string([]byte{byte(n >> 24), byte(n >> 16), byte(n >> 8), byte(n)})
}

// goodHeader is whether these two bytes are a header, as the chapter tells it.
func goodHeader(first int, second int) bool {
	return first%16 == 8 && first/16 <= 7 && (256*first+second)%31 == 0 && second/32%2 == 0
}

// modelUnzip is Unzip as the chapter tells it.
func modelUnzip(s string, limit int) (string, int, api.Errno) {
	if limit < 0 || limit > 1073741824 {
		return "", 0, api.ErrArg
	}
	if len(s) < 2 {
		return "", 0, api.ErrCut
	}
	if !goodHeader(int(s[0]), int(s[1])) {
		return "", 0, api.ErrForm
	}
	out, n, e := inflate.Inflate(s[2:], limit)
	if e != api.OK {
		return "", 0, e
	}
	rest := s[2+n:]
	if len(rest) < 4 {
		return "", 0, api.ErrCut
	}
	if rest[:4] != sumOf(out) {
		return "", 0, api.ErrSum
	}
	return out, len(s) - len(rest) + 4, api.OK
}

func wants(t *testing.T, s string, limit int, out string, n int, e api.Errno) {
	t.Helper()
	if o, k, f := Unzip(s, limit); o != out || k != n || f != e {
		t.Errorf("%.60x, limit %d: %.60x, %d, %d, not %.60x, %d, %d", s, limit, o, k, f, out, n, e)
	}
}

// same holds Unzip against the model.
func same(t *testing.T, s string, limit int) api.Errno {
	t.Helper()
	out, n, e := modelUnzip(s, limit)
	wants(t, s, limit, out, n, e)
	return e
}

// texts are of several kinds and lengths.
func texts() []string {
	random := rand.New(rand.NewSource(1))
	l := []string{"", "a", "Wikipedia", "\x00", "\xff\xff\xff"}
	for _, n := range []int{2, 10, 100, 1000, 65535, 70000} {
		noise := make([]byte, n)
		random.Read(noise)
		l = append(l, string(noise), strings.Repeat("z", n), strings.Repeat("mortise and tenon. ", n/19), strings.Repeat("\xff", n))
	}
	return l
}

func TestP10_1Zip(t *testing.T) {
	for _, s := range texts() {
		z := Zip(s)
		if z != "\x78\x9c"+deflate.Deflate(s)+sumOf(s) {
			t.Errorf("%.40q: %.40x (%d bytes)", s, z, len(z))
		}
		r, err := other.NewReader(strings.NewReader(z))
		if err != nil {
			t.Fatalf("%.40q: %v", s, err)
		}
		if plain, err := io.ReadAll(r); string(plain) != s || err != nil {
			t.Errorf("%.40q: another reader: %.40q, %v", s, plain, err)
		}
	}
}

// TestP10_2EveryHeader, with what follows correct, and with an error of its own.
func TestP10_2EveryHeader(t *testing.T) {
	good := 0
	for first := range 256 {
		for second := range 256 {
			h := string([]byte{byte(first), byte(second)})
			if goodHeader(first, second) {
				good++
				wants(t, h+empty, 0, "", 8, api.OK)
				wants(t, h+"\x07", 0, "", 0, api.ErrForm)
				wants(t, h, 0, "", 0, api.ErrCut)
				wants(t, h+"\x4b\x04\x00", 0, "", 0, api.ErrLimit)
				wants(t, h+empty[:5]+"\x02", 0, "", 0, api.ErrSum)
				continue
			}
			for _, body := range []string{empty, "", "\x07", "\x4b\x04\x00", empty[:4], empty[:5] + "\x02"} {
				wants(t, h+body, 0, "", 0, api.ErrForm)
			}
		}
	}
	if good < 30 {
		t.Errorf("%d headers", good)
	}
	for _, h := range []string{"\x78\x01", "\x78\x5e", "\x78\x9c", "\x78\xda", "\x08\x1d", "\x08\xd7", "\x68\x05", "\x18\x19"} {
		wants(t, h+empty, 0, "", 8, api.OK)
	}
	for _, h := range []string{"\x78\x9d", "\x78\x9b", "\x78\x00", "\x9c\x78", "\x78\x20", "\x78\xbb", "\x88\x1c", "\x77\x85", "\x79\x99", "\x08\x3c", "\x00\x00"} {
		wants(t, h+empty, 0, "", 0, api.ErrForm)
	}
}

func TestP10_2Limit(t *testing.T) {
	for _, limit := range []int{math.MinInt, -1, most + 1, math.MaxInt} {
		for _, s := range []string{"\x78\x9c" + empty, "", "\x78", "\x00\x00", "\x78\x9c\x07", "\x78\x9c\x4b\x04\x00\x00\x00\x00\x00"} {
			wants(t, s, limit, "", 0, api.ErrArg) // ahead of all other errors
		}
	}
	wants(t, "\x78\x9c"+empty, most, "", 8, api.OK)
	z := "\x78\x9c\x4b\x04\x00\x00\x62\x00\x62"
	wants(t, z, 0, "", 0, api.ErrLimit)
	wants(t, z, 1, "a", 9, api.OK)
	wants(t, z, most, "a", 9, api.OK)
}

// TestP10_2Cut: all that is too short is ErrCut, whatever its first byte is, if there is no second one.
func TestP10_2Cut(t *testing.T) {
	wants(t, "", 0, "", 0, api.ErrCut)
	for first := range 256 {
		wants(t, string([]byte{byte(first)}), 0, "", 0, api.ErrCut)
	}
	for _, s := range texts() {
		z := Zip(s)
		for cut := 0; cut < len(z); cut += 1 + len(z)/50 {
			wants(t, z[:cut], len(s), "", 0, api.ErrCut)
		}
		for cut := max(0, len(z)-9); cut < len(z); cut++ {
			wants(t, z[:cut], len(s), "", 0, api.ErrCut)
		}
	}
	// A sum that is cut is not held against anything.
	wants(t, "\x78\x9c\x03\x00\xff\xff\xff", 0, "", 0, api.ErrCut)
}

// TestP10_2Behind: what follows the sum does not matter, and is not counted.
func TestP10_2Behind(t *testing.T) {
	for _, s := range texts() {
		z := Zip(s)
		for _, tail := range []string{"", "\x00", "zz", z, strings.Repeat("\xff", 500)} {
			wants(t, z+tail, len(s), s, len(z), api.OK)
		}
	}
}

// TestP10_2InflateErrors: those of the deflated data come ahead of those of the sum.
func TestP10_2InflateErrors(t *testing.T) {
	for _, c := range []struct {
		body string
		e    api.Errno
	}{
		{"\x07", api.ErrForm},
		{"\x07\x00\x00\x00\x00\x00\x01", api.ErrForm},
		{"\x01\x00\x00\xff", api.ErrCut},
		{"\x01\x00\x00\xff\xfe", api.ErrForm},
		{"\x4b\x04\x00", api.ErrLimit},
		{"\x01\x01\x00\xfe\xff", api.ErrCut},
		{"\x01\x01\x00\xfe\xffa", api.ErrLimit},
		{"\x01\x00\x00\xff\xff\x00\x00\x00\x01", api.OK},
		{"\x01\x00\x00\xff\xff\x01\x00\x00\x00", api.ErrSum}, // the highest byte comes first
		{"\x01\x00\x00\xff\xff\x00\x00\x00\x00", api.ErrSum},
		{"\x01\x00\x00\xff\xff\x00\x00\x00", api.ErrCut},
	} {
		n := 0
		if c.e == api.OK {
			n = 2 + len(c.body)
		}
		wants(t, "\x78\x9c"+c.body, 0, "", n, c.e)
		same(t, "\x78\x9c"+c.body, 0)
	}
}

// zipped is what another writer makes of s.
func zipped(s string, level int) string {
	var b bytes.Buffer
	w, _ := other.NewWriterLevel(&b, level)
	w.Write([]byte(s))
	w.Close()
	return b.String()
}

func TestP10_2OfAnotherWriter(t *testing.T) {
	for _, s := range texts() {
		for level := other.HuffmanOnly; level <= other.BestCompression; level++ {
			z := zipped(s, level)
			wants(t, z, len(s), s, len(z), api.OK)
			if s != "" {
				wants(t, z, len(s)-1, "", 0, api.ErrLimit)
			}
		}
	}
}

// TestP10_2Changed: with any bytes changed, there is what the model returns.
func TestP10_2Changed(t *testing.T) {
	random := rand.New(rand.NewSource(2))
	seen := map[api.Errno]int{}
	all := texts()
	for range 5000 {
		s := all[random.Intn(13)]
		b := []byte(Zip(s))
		for range random.Intn(3) {
			b[random.Intn(len(b))] ^= 1 << random.Intn(8)
		}
		if random.Intn(4) == 0 {
			b = b[:random.Intn(len(b))]
		}
		limit := len(s) + 300
		if random.Intn(5) == 0 {
			limit = random.Intn(len(s) + 1)
		}
		seen[same(t, string(b), limit)]++
	}
	for _, e := range []api.Errno{api.OK, api.ErrCut, api.ErrForm, api.ErrSum, api.ErrLimit} {
		if seen[e] < 100 {
			t.Errorf("error %d: %d times", e, seen[e])
		}
	}
}

// TestP10_3UnzippedAgain, and each changed bit of the sum is detected.
func TestP10_3UnzippedAgain(t *testing.T) {
	for _, s := range texts() {
		z := Zip(s)
		wants(t, z, len(s), s, len(z), api.OK)
		wants(t, z, most, s, len(z), api.OK)
		for i := range 32 {
			b := []byte(z)
			b[len(b)-1-i/8] ^= 1 << (i % 8)
			wants(t, string(b), len(s), "", 0, api.ErrSum)
			wants(t, string(b)+"zz", len(s), "", 0, api.ErrSum)
		}
	}
}

func TestR6AskedAgain(t *testing.T) {
	for _, s := range texts() {
		z := Zip(s)
		Unzip("\x78\x9c\x07", 9)
		Zip("other")
		if Zip(s) != z {
			t.Errorf("%.40q: another answer", s)
		}
		for range 2 {
			wants(t, z, len(s), s, len(z), api.OK)
		}
	}
}

func TestExampleOfTheChapter(t *testing.T) {
	if z := Zip(""); z != "\x78\x9c\x03\x00\x00\x00\x00\x01" {
		t.Errorf("%x", z)
	}
}
