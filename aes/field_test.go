package aes_test

import (
	"testing"

	"dromond/aes"
)

// product multiplies the polynomials in full, and then takes the remainder by long division.
func product(a, b byte) byte {
	full := 0
	for i := range 8 {
		for j := range 8 {
			full ^= int(a>>i&1) * int(b>>j&1) << (i + j)
		}
	}
	const modulus = 1<<8 | 1<<4 | 1<<3 | 1<<1 | 1
	for i := 14; i >= 8; i-- {
		if full>>i&1 == 1 {
			full ^= modulus << (i - 8)
		}
	}
	return byte(full)
}

// inverse looks for the byte whose product with b is 1.
func inverse(b byte) byte {
	for c := range 256 {
		if product(b, byte(c)) == 1 {
			return byte(c)
		}
	}
	return 0
}

// substituted takes the bits one by one, as the chapter does.
func substituted(b byte) byte {
	x, s := inverse(b), byte(0)
	for i := range 8 {
		bit := byte(0b01100011) >> i & 1
		for _, j := range []int{i, i + 4, i + 5, i + 6, i + 7} {
			bit ^= x >> (j % 8) & 1
		}
		s |= bit << i
	}
	return s
}

// products are those of all pairs of bytes.
func products() *[256][256]byte {
	var all [256][256]byte
	for a := range 256 {
		for b := range 256 {
			all[a][b] = aes.Times(byte(a), byte(b))
		}
	}
	return &all
}

// P7.1: all products.
func TestTimes(t *testing.T) {
	for a, row := range products() {
		for b, got := range row {
			if want := product(byte(a), byte(b)); got != want {
				t.Fatalf("%02x times %02x: %02x, want %02x", a, b, got, want)
			}
		}
	}
}

// P7.1: products that FIPS 197 publishes.
func TestPublishedProducts(t *testing.T) {
	for _, c := range [][3]byte{
		{0x57, 0x83, 0xc1}, {0x57, 0x13, 0xfe}, {0x57, 0x02, 0xae}, {0x57, 0x04, 0x47}, {0x57, 0x08, 0x8e},
		{0x57, 0x10, 0x07}, {0x53, 0xca, 0x01}, {0x80, 0x02, 0x1b}, {0xff, 0xff, 0x13},
	} {
		if got := aes.Times(c[0], c[1]); got != c[2] {
			t.Errorf("%02x times %02x: %02x, want %02x", c[0], c[1], got, c[2])
		}
	}
}

// P7.1: all substituted bytes.
func TestSub(t *testing.T) {
	for b := range 256 {
		if got, want := aes.Sub(byte(b)), substituted(byte(b)); got != want {
			t.Errorf("%02x: %02x, want %02x", b, got, want)
		}
	}
}

// P7.1: substituted bytes that FIPS 197 publishes: the first and the last row of its table, and its first and its last
// column.
func TestPublishedSubstitution(t *testing.T) {
	const firstRow = "\x63\x7c\x77\x7b\xf2\x6b\x6f\xc5\x30\x01\x67\x2b\xfe\xd7\xab\x76"
	const lastRow = "\x8c\xa1\x89\x0d\xbf\xe6\x42\x68\x41\x99\x2d\x0f\xb0\x54\xbb\x16"
	const firstColumn = "\x63\xca\xb7\x04\x09\x53\xd0\x51\xcd\x60\xe0\xe7\xba\x70\xe1\x8c"
	const lastColumn = "\x76\xc0\x15\x75\x84\xcf\xa8\xd2\x73\xdb\x79\x08\x8a\x9e\xdf\x16"
	for i := range 16 {
		for b, want := range map[int]byte{
			i: firstRow[i], 0xf0 + i: lastRow[i], 16 * i: firstColumn[i], 16*i + 15: lastColumn[i],
		} {
			if got := aes.Sub(byte(b)); got != want {
				t.Errorf("%02x: %02x, want %02x", b, got, want)
			}
		}
	}
}

// P7.1: substituting reaches every byte, and leaves none as it is.
func TestSubReachesAll(t *testing.T) {
	from := map[byte]int{}
	for b := range 256 {
		s := aes.Sub(byte(b))
		if before, ok := from[s]; ok {
			t.Errorf("%02x and %02x: both %02x", before, b, s)
		}
		if s == byte(b) {
			t.Errorf("%02x stays", b)
		}
		from[s] = b
	}
}

// P7.2: 0 and 1, the order of the factors, and an inverse for each byte but 0.
func TestFieldOfPairs(t *testing.T) {
	all := products()
	for a := range 256 {
		if all[a][0] != 0 || all[0][a] != 0 || all[a][1] != byte(a) || all[1][a] != byte(a) {
			t.Errorf("%02x times 0: %02x, times 1: %02x", a, all[a][0], all[a][1])
		}
		inverses, zeros := 0, 0
		for b := range 256 {
			if all[a][b] != all[b][a] {
				t.Errorf("%02x times %02x: %02x, and %02x the other way round", a, b, all[a][b], all[b][a])
			}
			switch all[a][b] {
			case 0:
				zeros++
			case 1:
				inverses++
			}
		}
		if a != 0 && (inverses != 1 || zeros != 1) {
			t.Errorf("%02x: %d products are 1, and %d are 0", a, inverses, zeros)
		}
	}
}

// P7.2: products of three bytes, and of a byte and a sum, which is the XOR.
func TestFieldOfTriples(t *testing.T) {
	all := products()
	for a := range 256 {
		for b := range 256 {
			for c := range 256 {
				if all[all[a][b]][c] != all[a][all[b][c]] {
					t.Fatalf("%02x, %02x, %02x: which two are multiplied first matters", a, b, c)
				}
				if all[a][b^c] != all[a][b]^all[a][c] {
					t.Fatalf("%02x times the sum of %02x and %02x is not the sum of the products", a, b, c)
				}
			}
		}
	}
}
