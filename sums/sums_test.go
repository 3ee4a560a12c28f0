package sums

import (
	"encoding/binary"
	"hash/adler32"
	"hash/crc32"
	"math/big"
	"math/rand"
	"strings"
	"testing"

	"mortise/api"
)

// bitwise is More as the chapter tells it, bit by bit.
func bitwise(c uint32, s string) uint32 {
	register := ^c
	for _, b := range []byte(s) {
		for i := range 8 {
			out, in := register&1, uint32(b>>i)&1
			register >>= 1
			if out != in {
				register ^= 0xedb88320
			}
		}
	}
	return ^register
}

// bytewise is AdlerMore as the chapter tells it, by numbers of any size.
func bytewise(a uint32, s string) uint32 {
	n := big.NewInt(65521)
	low, high := big.NewInt(int64(a%65536)), big.NewInt(int64(a/65536))
	low.Mod(low, n)
	high.Mod(high, n)
	for _, b := range []byte(s) {
		low.Mod(low.Add(low, big.NewInt(int64(b))), n)
		high.Mod(high.Add(high, low), n)
	}
	return uint32(65536*high.Int64() + low.Int64())
}

// some returns n bytes, the same ones each time.
func some(n int) string {
	b := make([]byte, n)
	rand.New(rand.NewSource(int64(n))).Read(b)
	return string(b)
}

// texts are the empty string, all of one byte, and others of many lengths.
func texts() []string {
	l := []string{"", "123456789", "Wikipedia", strings.Repeat("\x00", 600), strings.Repeat("\xff", 6000), "\x00\x00\x00\x00", "\xff\xff\xff\xff"}
	for i := range 256 {
		l = append(l, string([]byte{byte(i)}))
	}
	for n := range 70 {
		l = append(l, some(n))
	}
	return append(l, some(5000))
}

// sumsToGoOn are sums to go on from: any 32 bits may be.
func sumsToGoOn() []uint32 {
	l := []uint32{0, 1, 0xffffffff, 0xedb88320, 0xfff0fff0, 0xfff1fff1, 0xfff10000, 0x0000fff1, 0xfffffff0, 0xfff0ffff, 0x80000000, 0x12345678}
	for i := range 32 {
		l = append(l, 1<<i)
	}
	return l
}

func TestP3_1Crc(t *testing.T) {
	for _, s := range texts() {
		want := bitwise(0, s)
		if got := Crc(s); got != want || got != crc32.ChecksumIEEE([]byte(s)) {
			t.Errorf("Crc of %.20x (%d bytes): %x, not %x", s, len(s), got, want)
		}
	}
}

func TestP3_1More(t *testing.T) {
	for _, c := range sumsToGoOn() {
		for _, s := range texts() {
			if got, want := More(c, s), bitwise(c, s); got != want {
				t.Errorf("More of %x, %.20x (%d bytes): %x, not %x", c, s, len(s), got, want)
			}
		}
		if More(c, "") != c {
			t.Errorf("More of %x and no bytes: %x", c, More(c, ""))
		}
	}
}

func TestP3_2Adler(t *testing.T) {
	for _, s := range texts() {
		want := bytewise(1, s)
		if got := Adler(s); got != want || got != adler32.Checksum([]byte(s)) {
			t.Errorf("Adler of %.20x (%d bytes): %x, not %x", s, len(s), got, want)
		}
	}
	// So long that sums which are not kept below the modulus would not fit.
	long := strings.Repeat("\xff", 1<<24)
	if got, want := Adler(long), adler32.Checksum([]byte(long)); got != want {
		t.Errorf("Adler of 2^24 bytes: %x, not %x", got, want)
	}
}

func TestP3_2AdlerMore(t *testing.T) {
	for _, a := range sumsToGoOn() {
		for _, s := range texts() {
			if got, want := AdlerMore(a, s), bytewise(a, s); got != want {
				t.Errorf("AdlerMore of %x, %.20x (%d bytes): %x, not %x", a, s, len(s), got, want)
			}
		}
	}
	for _, c := range []struct{ a, want uint32 }{{0xfff1fff1, 0}, {0xfff0fff0, 0xfff0fff0}, {0xffffffff, 0x000e000e}, {0x0001fff2, 0x00010001}} {
		if got := AdlerMore(c.a, ""); got != c.want {
			t.Errorf("AdlerMore of %x and no bytes: %x, not %x", c.a, got, c.want)
		}
	}
}

func TestP3_3Words(t *testing.T) {
	for _, s := range append(texts(), strings.Repeat("\xff", 7), "\x80\x00\x00\x00\x80\x00\x00\x01") {
		padded := []byte(s)
		for len(padded)%4 != 0 {
			padded = append(padded, 0)
		}
		sum := new(big.Int)
		for i := 0; i < len(padded); i += 4 {
			sum.Add(sum, big.NewInt(int64(binary.BigEndian.Uint32(padded[i:]))))
		}
		want := uint32(sum.Mod(sum, big.NewInt(1<<32)).Uint64())
		if got := Words(s); got != want {
			t.Errorf("Words of %.20x (%d bytes): %x, not %x", s, len(s), got, want)
		}
	}
	for s, want := range map[string]uint32{"": 0, "\x01": 0x01000000, "\x01\x02": 0x01020000, "\x01\x02\x03": 0x01020300, "\x01\x02\x03\x04": 0x01020304, "\x01\x02\x03\x04\x05": 0x06020304} {
		if got := Words(s); got != want {
			t.Errorf("Words of %x: %x, not %x", s, got, want)
		}
	}
}

func TestP3_4Tar(t *testing.T) {
	for i := range 512 {
		for _, b := range []byte{0, 1, 32, 255} {
			header := make([]byte, 512)
			header[i] = b
			want := 8*32 + int(b)
			if i >= 148 && i <= 155 {
				want = 8 * 32
			}
			if n, e := Tar(string(header)); n != want || e != api.OK {
				t.Errorf("byte %d is %d: %d, %d, not %d", i, b, n, e, want)
			}
		}
	}
	if n, e := Tar(strings.Repeat("\xff", 512)); n != 504*255+8*32 || e != api.OK {
		t.Errorf("the greatest sum: %d, %d", n, e)
	}
	for seed := range 20 {
		header := some(512 + seed)[seed:]
		want := 8 * 32
		for _, b := range []byte(header[:148] + header[156:]) {
			want += int(b)
		}
		if n, e := Tar(header); n != want || e != api.OK {
			t.Errorf("header %d: %d, %d, not %d", seed, n, e, want)
		}
	}
}

func TestP3_4NotAHeader(t *testing.T) {
	for _, n := range []int{0, 1, 147, 148, 155, 156, 157, 500, 511, 513, 1024, 5120} {
		if got, e := Tar(strings.Repeat("a", n)); got != 0 || e != api.ErrArg {
			t.Errorf("%d bytes: %d, %d", n, got, e)
		}
	}
}

func TestP3_5Concatenation(t *testing.T) {
	for _, s := range texts() {
		for _, at := range []int{0, 1, len(s) / 3, len(s) / 2, len(s) - 1, len(s)} {
			if at < 0 || at > len(s) {
				continue
			}
			a, b := s[:at], s[at:]
			if got, want := More(Crc(a), b), Crc(s); got != want {
				t.Errorf("More of %d and %d bytes: %x, not %x", len(a), len(b), got, want)
			}
			if got, want := AdlerMore(Adler(a), b), Adler(s); got != want {
				t.Errorf("AdlerMore of %d and %d bytes: %x, not %x", len(a), len(b), got, want)
			}
			a, b = s[:at/4*4], s[at/4*4:]
			if got, want := Words(a)+Words(b), Words(s); got != want {
				t.Errorf("Words of %d and %d bytes: %x, not %x", len(a), len(b), got, want)
			}
		}
	}
}

// differ returns s with those of its bits changed that are set in these 32, from the bit at on (the lowest one of each byte first).
func differ(s string, at int, these uint32) string {
	b := []byte(s)
	for i := range 32 {
		if these>>i&1 == 1 {
			b[(at+i)/8] ^= 1 << ((at + i) % 8)
		}
	}
	return string(b)
}

func TestP3_5FewBitsDiffer(t *testing.T) {
	r := rand.New(rand.NewSource(5))
	for _, n := range []int{4, 5, 11, 64} {
		s := some(n)
		c := Crc(s)
		for at := 0; at+32 <= 8*n; at++ {
			these := []uint32{0xffffffff, 0xedb88320, 0x04c11db7, 0x80000001}
			for i := range 32 {
				these = append(these, 1<<i, r.Uint32()|1)
			}
			for _, x := range these {
				if Crc(differ(s, at, x)) == c {
					t.Errorf("%d bytes, bits %x from %d on: the same Crc", n, x, at)
				}
			}
		}
	}
}

func TestR6AskedAgain(t *testing.T) {
	s := some(512)
	c, a, w := Crc(s), Adler(s), Words(s)
	n, _ := Tar(s)
	for range 3 {
		Crc("other")
		Adler("other")
		Tar("other")
		if m, e := Tar(s); Crc(s) != c || Adler(s) != a || Words(s) != w || m != n || e != api.OK {
			t.Error("another sum")
		}
	}
}

func TestExamplesOfTheChapter(t *testing.T) {
	if Crc("123456789") != 0xcbf43926 || Crc("") != 0 {
		t.Error("Crc")
	}
	if Adler("Wikipedia") != 0x11e60398 || Adler("") != 1 {
		t.Error("Adler")
	}
	if Words("\x00\x00\x00\x01\x00\x00\x00\x02") != 3 || Words("\xff") != 0xff000000 {
		t.Error("Words")
	}
}
