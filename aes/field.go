package aes

import "math/bits"

// reduction is x^8 modulo x^8 + x^4 + x^3 + x + 1.
const reduction = 0x1b

// Times returns the product of a and b.
func Times(a, b byte) byte {
	product := byte(0)
	for ; b > 0; b >>= 1 {
		product ^= (b & 1) * a
		a = twice(a)
	}
	return product
}

// twice returns the product of 2 and a.
func twice(a byte) byte {
	highest := a >> 7
	return a<<1 ^ highest*reduction
}

// Sub returns the substituted byte.
func Sub(b byte) byte {
	return spread(inverses()[b])
}

// spread returns what an inverse is substituted by. Each bit comes from the same bit of x and from the four before
// it, cyclically, which are turned to its place.
func spread(x byte) byte {
	sum := byte(0x63)
	for by := range 5 {
		sum ^= bits.RotateLeft8(x, by)
	}
	return sum
}

// inverses returns the multiplicative inverse of each byte, and 0 for 0. The powers of 3 are all bytes but 0, and
// the power 255 is 1 again: so the inverse of the power i is the power 255 - i.
func inverses() [256]byte {
	var powers [256]byte
	power := byte(1)
	for i := range powers {
		powers[i] = power
		power ^= twice(power)
	}
	var all [256]byte
	for i, p := range powers {
		all[p] = powers[255-i]
	}
	return all
}
