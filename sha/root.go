package sha

import "math/bits"

// maxRoot is the greatest number of which Root returns a root.
const maxRoot = 1000

// Root returns the first 64 bits of the fractional part of the cube root or the square root of p, or 0 if p is not
// from 2 to 1000.
func Root(p uint64, cube bool) uint64 {
	if p < 2 || p > maxRoot {
		return 0
	}
	power := 2
	if cube {
		power = 3
	}
	whole := uint64(1)
	for wholePower(whole+1, 0, power) <= p {
		whole++
	}
	// A root is whole or irrational, so no fraction but 0 has p itself as its power.
	fraction := uint64(0)
	for bit := uint64(1) << 63; bit > 0; bit >>= 1 {
		if wholePower(whole, fraction|bit, power) < p {
			fraction |= bit
		}
	}
	return fraction
}

// wide is a number of four digits of 64 bits, the lowest one first. It holds the cube of a number with one digit
// before the point and one after it.
type wide [4]uint64

// wholePower returns the integer part of the second or third power of a number, which is given by its integer part
// and by the 64 bits of its fractional part.
func wholePower(whole, fraction uint64, power int) uint64 {
	x := wide{fraction, whole}
	y := x
	for range power - 1 {
		y = product(y, x)
	}
	// Each factor has one digit after the point, so the product has as many as it has factors.
	return y[power]
}

// product returns a times b, without what exceeds four digits.
func product(a, b wide) wide {
	var sum wide
	for i := range a {
		carry := uint64(0)
		for j := range len(b) - i {
			high, low := bits.Mul64(a[i], b[j])
			low, over := bits.Add64(low, sum[i+j], 0)
			high += over
			low, over = bits.Add64(low, carry, 0)
			sum[i+j], carry = low, high+over
		}
	}
	return sum
}
