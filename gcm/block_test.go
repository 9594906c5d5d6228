package gcm_test

import (
	"math/rand"
	"strings"
	"testing"

	"dromond/gcm"
)

// The blocks that are the polynomials 0 and 1.
var (
	zero = filled(0, 16)
	one  = "\x80" + filled(0, 15)
)

// coefficient returns the one of x^i.
func coefficient(x string, i int) byte {
	return x[i/8] >> (7 - i%8) & 1
}

// power returns the block that is x^i.
func power(i int) string {
	b := []byte(zero)
	b[i/8] = 0x80 >> (i % 8)
	return string(b)
}

// xor returns the sum of two blocks.
func xor(x, y string) string {
	b := []byte(x)
	for i := range b {
		b[i] ^= y[i]
	}
	return string(b)
}

// product multiplies the polynomials in full, and then takes the remainder by long division.
func product(x, y string) string {
	var full [255]byte
	for i := range 128 {
		for j := range 128 {
			full[i+j] ^= coefficient(x, i) & coefficient(y, j)
		}
	}
	for i := 254; i >= 128; i-- {
		if full[i] == 1 {
			for _, term := range []int{128, 7, 2, 1, 0} {
				full[i-128+term] ^= 1
			}
		}
	}
	b := []byte(zero)
	for i := range 128 {
		b[i/8] |= full[i] << (7 - i%8)
	}
	return string(b)
}

// inverse returns x to the power 2^128 - 2, which is the product of x^2, x^4, x^8 and so on.
func inverse(x string) string {
	y := one
	for range 127 {
		x = gcm.Times(x, x)
		y = gcm.Times(y, x)
	}
	return y
}

// samples are blocks of all kinds: few bits and many, at the ends and in the middle, and random ones.
func samples(r *rand.Rand) []string {
	all := []string{zero, one, filled(0xff, 16), filled(0xaa, 16), filled(0x55, 16), filled(0x80, 16), filled(1, 16)}
	for _, i := range []int{1, 2, 7, 8, 31, 32, 62, 63, 64, 65, 95, 96, 120, 121, 126, 127} {
		all = append(all, power(i), xor(power(i), filled(0xff, 16)))
	}
	for range 10 {
		all = append(all, random(r, 16))
	}
	return all
}

// P8.1: all products of two powers of x, so each coefficient of both factors by itself.
func TestProductsOfPowers(t *testing.T) {
	for i := range 128 {
		for j := range 128 {
			x, y := power(i), power(j)
			if got, want := gcm.Times(x, y), product(x, y); got != want {
				t.Fatalf("x^%d times x^%d: %x, want %x", i, j, got, want)
			}
		}
	}
}

// P8.1: products of blocks of all kinds.
func TestTimes(t *testing.T) {
	r := rand.New(rand.NewSource(1))
	all := samples(r)
	for _, x := range all {
		for _, y := range all {
			if got, want := gcm.Times(x, y), product(x, y); got != want {
				t.Fatalf("%x times %x: %x, want %x", x, y, got, want)
			}
		}
	}
	for range 2000 {
		x, y := random(r, 16), random(r, 16)
		if got, want := gcm.Times(x, y), product(x, y); got != want {
			t.Fatalf("%x times %x: %x, want %x", x, y, got, want)
		}
	}
}

// P8.1: products that can be told by hand: x to the power 127 times x is the rest of the modulus.
func TestKnownProducts(t *testing.T) {
	for _, c := range [][3]string{
		{one, one, one},
		{power(1), power(1), power(2)},
		{power(63), power(1), power(64)},
		{power(127), one, power(127)},
		{power(127), power(1), "\xe1" + filled(0, 15)},
		{power(127), power(2), "\x70\x80" + filled(0, 14)},
		{power(127), power(127), "\xe6\x08" + filled(0, 13) + "\x03"},
	} {
		if got := gcm.Times(c[0], c[1]); got != c[2] {
			t.Errorf("%x times %x: %x, want %x", c[0], c[1], got, c[2])
		}
	}
}

// P8.1: what is no block, as one factor or both: any other size, also of several blocks, and as many runes as a block
// has bytes.
func TestTimesOfNoBlock(t *testing.T) {
	others := []string{strings.Repeat("é", 16), filled(1, 1<<8+16), filled(1, 1<<16+16)}
	for size := range 100 {
		if size != 16 {
			others = append(others, filled(0, size), filled(0xff, size))
		}
	}
	for _, x := range others {
		for _, y := range []string{one, zero, strings.Repeat("é", 8), x, ""} {
			if a, b := gcm.Times(x, y), gcm.Times(y, x); a+b != "" {
				t.Errorf("%.80x of %d bytes and %x: %x, %x", x, len(x), y, a, b)
			}
		}
	}
	if x := strings.Repeat("é", 8); gcm.Times(x, one) != x || gcm.Times(one, x) != x {
		t.Errorf("%x times 1: %x, %x", x, gcm.Times(x, one), gcm.Times(one, x))
	}
}

// P8.2: 0 and 1, the order of the factors, and an inverse for each block but 0.
func TestFieldOfPairs(t *testing.T) {
	all := samples(rand.New(rand.NewSource(2)))
	for _, x := range all {
		if gcm.Times(x, zero) != zero || gcm.Times(zero, x) != zero || gcm.Times(x, one) != x || gcm.Times(one, x) != x {
			t.Errorf("%x times 0: %x, times 1: %x", x, gcm.Times(x, zero), gcm.Times(x, one))
		}
		if x != zero && (gcm.Times(x, inverse(x)) != one || gcm.Times(inverse(x), x) != one) {
			t.Errorf("%x times %x: %x, want 1", x, inverse(x), gcm.Times(x, inverse(x)))
		}
		for _, y := range all {
			if gcm.Times(x, y) != gcm.Times(y, x) {
				t.Errorf("%x times %x: %x, and %x the other way round", x, y, gcm.Times(x, y), gcm.Times(y, x))
			}
			if x != zero && y != zero && gcm.Times(x, y) == zero {
				t.Errorf("%x times %x is 0", x, y)
			}
		}
	}
}

// P8.2: products of three blocks, and of a block and a sum, which is the XOR.
func TestFieldOfTriples(t *testing.T) {
	all := samples(rand.New(rand.NewSource(3)))
	for _, x := range all {
		for _, y := range all {
			xy := gcm.Times(x, y)
			for _, z := range all {
				if gcm.Times(xy, z) != gcm.Times(x, gcm.Times(y, z)) {
					t.Fatalf("%x, %x, %x: which two are multiplied first matters", x, y, z)
				}
				if gcm.Times(x, xor(y, z)) != xor(xy, gcm.Times(x, z)) {
					t.Fatalf("%x times the sum of %x and %x is not the sum of the products", x, y, z)
				}
			}
		}
	}
}
