package hmac_test

import (
	"math/rand"
	"strings"
	"testing"
	"time"

	"dromond/hmac"
)

// changed returns b with the byte at i XORed with by.
func changed(b string, i int, by byte) string {
	c := []byte(b)
	c[i] ^= by
	return string(c)
}

// P6.1: equal strings, from other memory too, and strings with one changed bit at each place.
func TestSame(t *testing.T) {
	r := rand.New(rand.NewSource(8))
	for size := range 140 {
		a := random(r, size)
		if !hmac.Same(a, a) || !hmac.Same(a, strings.Clone(a)) {
			t.Fatalf("%x is not the same", a)
		}
		for i := range 8 * size {
			if b := changed(a, i/8, 1<<(i%8)); hmac.Same(a, b) || hmac.Same(b, a) {
				t.Fatalf("%x and %x are the same", a, b)
			}
		}
	}
}

// P6.1: differences that cancel each other when added or XORed, and bytes in another order.
func TestSameOfSeveralDifferences(t *testing.T) {
	for _, c := range [][2]string{
		{"\x00\x00", "\x01\x01"}, {"\x00\x00", "\x80\x80"}, {"\x00\x00\x00", "\x55\xaa\xff"},
		{"\x01\x02", "\x02\x01"}, {"\x00\x02", "\x01\x01"}, {"ab", "ba"}, {"abc", "xyz"},
	} {
		if hmac.Same(c[0], c[1]) || hmac.Same(c[1], c[0]) {
			t.Errorf("%x and %x are the same", c[0], c[1])
		}
	}
	every := strings.Repeat("\x00", 256)
	for by := 1; by < 256; by++ {
		if hmac.Same(every, strings.Repeat(string([]byte{byte(by)}), 256)) {
			t.Errorf("256 bytes 0 and %d are the same", by)
		}
	}
}

// P6.1: strings of different lengths, also if one begins or ends with the other, or the rest is zero bytes.
func TestSameOfDifferentLengths(t *testing.T) {
	for _, c := range [][2]string{
		{"", "a"}, {"", "\x00"}, {"a", "ab"}, {"b", "ab"}, {"a", "a\x00"}, {"a", "\x00a"}, {"a", "aa"},
		{strings.Repeat("a", 32), strings.Repeat("a", 31)}, {strings.Repeat("a", 256), strings.Repeat("a", 512)},
		{"", strings.Repeat("\x00", 256)}, {"", strings.Repeat("a", 1<<16)},
	} {
		if hmac.Same(c[0], c[1]) || hmac.Same(c[1], c[0]) {
			t.Errorf("%.40x and %.40x are the same", c[0], c[1])
		}
	}
	if !hmac.Same("", "") {
		t.Error("two empty strings are not the same")
	}
}

// fastest returns the shortest time of several calls, which other work on the machine disturbs least.
func fastest(a, b string) time.Duration {
	best := time.Hour
	for range 7 {
		start := time.Now()
		hmac.Same(a, b)
		best = min(best, time.Since(start))
	}
	return best
}

// P6.1: all bytes are examined, wherever a difference is. A comparison that stops at a difference, from whichever end
// it begins, takes about a thousandth of the time, or less, for some of these, so that a tenth is far from both.
func TestSameExaminesAllBytes(t *testing.T) {
	const size = 1 << 24
	a := random(rand.New(rand.NewSource(9)), size)
	whole := fastest(a, strings.Clone(a))
	for _, i := range []int{0, 1, size / 1000, size - size/1000, size - 2, size - 1} {
		if took := fastest(a, changed(a, i, 1)); took < whole/10 {
			t.Errorf("different at %d: %v, and %v if equal", i, took, whole)
		}
	}
}
