package crc_test

import (
	"math/rand"
	"testing"

	"dromond/crc"
)

// xor returns the XOR of strings of the same length.
func xor(a string, more ...string) string {
	b := []byte(a)
	for _, s := range more {
		for i := range b {
			b[i] ^= s[i]
		}
	}
	return string(b)
}

// differ fails unless all checksums of a and b differ.
func differ(t *testing.T, a, b string) {
	t.Helper()
	if crc.X25(a) == crc.X25(b) || crc.Sum(1, a) == crc.Sum(1, b) {
		t.Fatalf("kind 1: %x and %x have one checksum", a, b)
	}
	if crc.Castagnoli(a) == crc.Castagnoli(b) || crc.Sum(2, a) == crc.Sum(2, b) {
		t.Fatalf("kind 2: %x and %x have one checksum", a, b)
	}
}

// upward returns size bytes with the bits of w from the bit at on, where each byte begins with its lowest bit.
func upward(size, at int, w uint16) string {
	b := make([]byte, size)
	for i := range 16 {
		if p := at + i; w>>i&1 == 1 {
			b[p/8] |= 1 << (p % 8)
		}
	}
	return string(b)
}

// downward is upward where each byte begins with its highest bit.
func downward(size, at int, w uint16) string {
	b := make([]byte, size)
	for i := range 16 {
		if p := at + i; w>>i&1 == 1 {
			b[p/8] |= 0x80 >> (p % 8)
		}
	}
	return string(b)
}

// P4.2: one changed bit, each of a text.
func TestOneBit(t *testing.T) {
	r := rand.New(rand.NewSource(3))
	for _, size := range []int{1, 2, 3, 4, 5, 33, 400} {
		a := random(r, size)
		for i := range 8 * size {
			b := []byte(a)
			b[i/8] ^= 1 << (i % 8)
			differ(t, a, string(b))
		}
	}
}

// P4.2: every change within sixteen adjacent bits, at every place of a text. The document does not say which bit
// of a byte is adjacent to the next byte, and it holds either way.
func TestAdjacentBits(t *testing.T) {
	r := rand.New(rand.NewSource(4))
	for size := 2; size <= 5; size++ {
		a := random(r, size)
		for at := range 8*size - 15 {
			for w := 1; w < 1<<16; w += 2 {
				differ(t, a, xor(a, upward(size, at, uint16(w))))
				differ(t, a, xor(a, downward(size, at, uint16(w))))
			}
		}
	}
}

// P4.2: changes within sixteen adjacent bits of a text as long as a bundle.
func TestAdjacentBitsOfLongText(t *testing.T) {
	r := rand.New(rand.NewSource(5))
	const size = 4000
	a := random(r, size)
	for range 500 {
		at, w := r.Intn(8*size-15), uint16(1+r.Intn(1<<16-1))
		differ(t, a, xor(a, upward(size, at, w)))
		differ(t, a, xor(a, downward(size, at, w)))
	}
}

// linear fails unless the XOR of the checksums is the checksum of the XOR.
func linear(t *testing.T, a, b, c string) {
	t.Helper()
	x := xor(a, b, c)
	if crc.X25(a)^crc.X25(b)^crc.X25(c) != crc.X25(x) {
		t.Fatalf("X25: %x, %x, %x", a, b, c)
	}
	if crc.Castagnoli(a)^crc.Castagnoli(b)^crc.Castagnoli(c) != crc.Castagnoli(x) {
		t.Fatalf("Castagnoli: %x, %x, %x", a, b, c)
	}
	for kind := range 3 {
		if got := xor(crc.Sum(kind, a), crc.Sum(kind, b), crc.Sum(kind, c)); got != crc.Sum(kind, x) {
			t.Fatalf("kind %d: %x, %x, %x", kind, a, b, c)
		}
	}
}

// P4.2: three strings of the same length, from none on, also where some of them are equal.
func TestThreeStrings(t *testing.T) {
	r := rand.New(rand.NewSource(6))
	for size := range 200 {
		for range 5 {
			a, b, c := random(r, size), random(r, size), random(r, size)
			linear(t, a, b, c)
			linear(t, a, a, c)
			linear(t, a, b, string(make([]byte, size)))
			linear(t, a, a, a)
		}
	}
	linear(t, random(r, 4000), random(r, 4000), random(r, 4000))
}
