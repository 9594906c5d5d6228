package crc_test

import (
	"hash/crc32"
	"math"
	"math/rand"
	"strings"
	"testing"

	"dromond/crc"
)

// The powers of the polynomials, as the chapter lists them.
var (
	powersX25        = []int{16, 12, 5, 0}
	powersCastagnoli = []int{32, 28, 27, 26, 25, 23, 22, 20, 19, 18, 14, 13, 11, 10, 9, 8, 6, 0}
)

// divided returns the checksum of b by the long division that the chapter describes, bit by bit: the bits of each
// byte from the lowest one on, an initial register of all ones, which complements the first bits, and a remainder
// that is complemented and reflected.
func divided(b string, powers []int) uint32 {
	size := powers[0]
	bits := make([]byte, 8*len(b)+size)
	for i := range 8 * len(b) {
		bits[i] = b[i/8] >> (i % 8) & 1
	}
	for i := range size {
		bits[i] ^= 1
	}
	for i := range 8 * len(b) {
		if bits[i] == 1 {
			for _, p := range powers {
				bits[i+size-p] ^= 1
			}
		}
	}
	sum := uint32(0)
	for i, bit := range bits[8*len(b):] {
		sum |= uint32(bit^1) << i
	}
	return sum
}

// agree fails unless all checksums of b are those of the division.
func agree(t *testing.T, b string) {
	t.Helper()
	n, m := divided(b, powersX25), divided(b, powersCastagnoli)
	if got := crc.X25(b); uint32(got) != n {
		t.Fatalf("X25(%x) = %04x, want %04x", b, got, n)
	}
	if got := crc.Castagnoli(b); got != m {
		t.Fatalf("Castagnoli(%x) = %08x, want %08x", b, got, m)
	}
	if got, want := crc.Sum(1, b), string([]byte{byte(n >> 8), byte(n)}); got != want {
		t.Fatalf("Sum(1, %x) = %x, want %x", b, got, want)
	}
	if got, want := crc.Sum(2, b), string([]byte{byte(m >> 24), byte(m >> 16), byte(m >> 8), byte(m)}); got != want {
		t.Fatalf("Sum(2, %x) = %x, want %x", b, got, want)
	}
}

// random returns that many bytes.
func random(r *rand.Rand, size int) string {
	b := make([]byte, size)
	r.Read(b)
	return string(b)
}

// P4.1: the chapter's examples.
func TestExamples(t *testing.T) {
	const b = "123456789"
	if crc.X25(b) != 0x906e || crc.Castagnoli(b) != 0xe3069283 {
		t.Errorf("%04x %08x", crc.X25(b), crc.Castagnoli(b))
	}
	if crc.Sum(1, b) != "\x90\x6e" || crc.Sum(2, b) != "\xe3\x06\x92\x83" {
		t.Errorf("%x %x", crc.Sum(1, b), crc.Sum(2, b))
	}
}

// P4.1: the checksums of no bytes are 0, and take their bytes all the same.
func TestNoBytes(t *testing.T) {
	if crc.X25("") != 0 || crc.Castagnoli("") != 0 {
		t.Errorf("%04x %08x", crc.X25(""), crc.Castagnoli(""))
	}
	if crc.Sum(1, "") != "\x00\x00" || crc.Sum(2, "") != "\x00\x00\x00\x00" {
		t.Errorf("%x %x", crc.Sum(1, ""), crc.Sum(2, ""))
	}
}

// P4.1: checksums that are published for CRC-32C, in RFC 3720.
func TestPublishedCastagnoli(t *testing.T) {
	var up, down []byte
	for i := range 32 {
		up = append(up, byte(i))
		down = append(down, byte(31-i))
	}
	for b, want := range map[string]uint32{
		strings.Repeat("\x00", 32): 0x8a9136aa,
		strings.Repeat("\xff", 32): 0x62a8ab43,
		string(up):                 0x46dd794e,
		string(down):               0x113fdb5c,
	} {
		if got := crc.Castagnoli(b); got != want {
			t.Errorf("%x: %08x, want %08x", b, got, want)
		}
	}
}

// P4.1: a text that is followed by its own checksum, the lower byte first, has a checksum that is always the same.
func TestResidue(t *testing.T) {
	r := rand.New(rand.NewSource(1))
	for size := range 100 {
		b := random(r, size)
		n, m := crc.X25(b), crc.Castagnoli(b)
		if got := crc.X25(b + string([]byte{byte(n), byte(n >> 8)})); got != 0x0f47 {
			t.Fatalf("%x: %04x", b, got)
		}
		tail := string([]byte{byte(m), byte(m >> 8), byte(m >> 16), byte(m >> 24)})
		if got := crc.Castagnoli(b + tail); got != 0x48674bc7 {
			t.Fatalf("%x: %08x", b, got)
		}
	}
}

// P4.1: every text of one and of two bytes. Among the checksums are those whose first bytes are 0.
func TestShortTexts(t *testing.T) {
	for i := range 1 << 8 {
		agree(t, string([]byte{byte(i)}))
	}
	for i := range 1 << 16 {
		agree(t, string([]byte{byte(i >> 8), byte(i)}))
	}
}

// P4.1: texts of all lengths up to 300, and of a whole bundle: any bytes, equal bytes, and runes.
func TestLongTexts(t *testing.T) {
	r := rand.New(rand.NewSource(2))
	table := crc32.MakeTable(crc32.Castagnoli)
	for size := range 300 {
		for _, b := range []string{
			random(r, size), strings.Repeat("\x00", size), strings.Repeat("\xff", size), strings.Repeat("é", size),
		} {
			agree(t, b)
		}
	}
	for _, size := range []int{3999, 4000, 4001, 70000} {
		b := random(r, size)
		agree(t, b)
		if crc.Castagnoli(b) != crc32.Checksum([]byte(b), table) {
			t.Errorf("%d bytes: %08x", size, crc.Castagnoli(b))
		}
	}
}

// P4.1: kind 0 has no checksum.
func TestKindNone(t *testing.T) {
	if crc.Size(0) != 0 {
		t.Errorf("%d", crc.Size(0))
	}
	for _, b := range []string{"", "a", "123456789"} {
		if got := crc.Sum(0, b); got != "" {
			t.Errorf("Sum(0, %q) = %x", b, got)
		}
	}
}

// P4.1: Size of the kinds that have a checksum is the length of Sum.
func TestSize(t *testing.T) {
	if crc.Size(1) != 2 || crc.Size(2) != 4 {
		t.Errorf("%d %d", crc.Size(1), crc.Size(2))
	}
	for kind := range 3 {
		for _, b := range []string{"", "a", "\x00\x00", "123456789"} {
			if got := crc.Sum(kind, b); len(got) != crc.Size(kind) {
				t.Errorf("Sum(%d, %q) = %x", kind, b, got)
			}
		}
	}
}

// P4.1: all other kinds, also those that are 0, 1 or 2 in fewer bits.
func TestNoKind(t *testing.T) {
	for _, kind := range []int{
		math.MinInt, math.MinInt + 1, math.MinInt + 2, math.MinInt32, -1 << 16, -256, -255, -254, -4, -3, -2, -1,
		3, 4, 5, 16, 32, 256, 257, 258, 1 << 16, 1<<16 + 1, 1<<16 + 2, math.MaxInt32, math.MaxInt - 1, math.MaxInt,
	} {
		if got := crc.Size(kind); got != -1 {
			t.Errorf("Size(%d) = %d", kind, got)
		}
		for _, b := range []string{"", "a", "123456789"} {
			if got := crc.Sum(kind, b); got != "" {
				t.Errorf("Sum(%d, %q) = %x", kind, b, got)
			}
		}
	}
}
