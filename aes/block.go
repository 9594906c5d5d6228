package aes

// size is the number of bytes of a block.
const size = 16

// block has its four columns, and each column its bytes by their rows.
type block [4][4]byte

// box tells for each byte what replaces it.
type box [256]byte

// blockOf returns the block with the bytes of b, which has as many as a block.
func blockOf(b string) block {
	var x block
	for i := range size {
		x[i/4][i%4] = b[i]
	}
	return x
}

// text returns the bytes of x.
func (x block) text() string {
	b := make([]byte, 0, size)
	for _, column := range x {
		b = append(b, column[:]...)
	}
	return string(b)
}

// replaced returns x with each byte replaced.
func (x block) replaced(by *box) block {
	for i, column := range x {
		x[i] = replaced(column, by)
	}
	return x
}

// rotated returns x with each row rotated left by its index, as often as times tells. Four times change nothing, so
// three times reverse one.
func (x block) rotated(times int) block {
	var y block
	for i := range y {
		for row := range y[i] {
			y[i][row] = x[(i+times*row)%4][row]
		}
	}
	return y
}

// multiplied returns x with each column multiplied: by has the factors of a byte's own row and of the three rows
// after it.
func (x block) multiplied(by [4]byte) block {
	var y block
	for i, column := range x {
		for row := range column {
			for j, factor := range by {
				y[i][row] ^= Times(column[(row+j)%4], factor)
			}
		}
	}
	return y
}

// replaced returns x, a column or a word, with each byte replaced.
func replaced(x [4]byte, by *box) [4]byte {
	for i, b := range x {
		x[i] = by[b]
	}
	return x
}

// sum returns the XOR of two columns or words.
func sum(x, y [4]byte) [4]byte {
	for i := range x {
		x[i] ^= y[i]
	}
	return x
}
