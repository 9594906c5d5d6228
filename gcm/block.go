package gcm

// size is the number of bytes of a block.
const size = 16

// reduction is x^128 modulo x^128 + x^7 + x^2 + x + 1, as the first half of a block.
const reduction = 0xe1 << 56

// block is a polynomial: the highest bit of high is the coefficient of x^0, the lowest one of low that of x^127.
type block struct {
	high, low uint64
}

// blockOf returns the block that b begins with; what b lacks are zero bytes.
func blockOf(b string) block {
	var padded [size]byte
	copy(padded[:], b)
	return block{number(padded[:size/2]), number(padded[size/2:])}
}

// number returns the number that b spells, big-endian.
func number(b []byte) uint64 {
	n := uint64(0)
	for _, v := range b {
		n = n<<8 | uint64(v)
	}
	return n
}

// text returns the bytes of x.
func (x block) text() string {
	var b [size]byte
	for i := range size / 2 {
		shift := 56 - 8*i
		b[i], b[size/2+i] = byte(x.high>>shift), byte(x.low>>shift)
	}
	return string(b[:])
}

// plus returns the XOR of x and y, which is the sum of the polynomials.
func (x block) plus(y block) block {
	return block{x.high ^ y.high, x.low ^ y.low}
}

// shifted returns the product of the block and x^1: the bits of both halves move on by one place, and what leaves the
// last one is reduced.
func (x block) shifted() block {
	gone := x.low & 1
	return block{x.high>>1 ^ gone*reduction, x.high<<63 | x.low>>1}
}

// times returns the product of x and y: for each coefficient i of y that is 1, x shifted i times is added. The
// steps are the same for all coefficients, so that their time does not tell what they are.
func (x block) times(y block) block {
	var product block
	for range 8 * size {
		coefficient := y.high >> 63
		product = product.plus(block{coefficient * x.high, coefficient * x.low})
		x = x.shifted()
		y = block{y.high<<1 | y.low>>63, y.low << 1}
	}
	return product
}
