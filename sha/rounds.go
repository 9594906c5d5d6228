package sha

// word is a word of size 256, or one of sizes 384 and 512.
type word interface {
	uint32 | uint64
}

// maxRounds is the number of rounds for the longer words.
const maxRounds = 80

// plan is what the rounds of a size differ in. The chapter's S0 and S1 rotate by three distances; its s0 and s1
// rotate by two distances and shift by the third one.
type plan struct {
	bits, rounds   int
	big0, big1     [3]int
	small0, small1 [3]int
}

// planOf returns the plan of one of the three sizes.
func planOf(size int) plan {
	if size == size256 {
		return plan{
			bits: 32, rounds: 64,
			big0: [3]int{2, 13, 22}, big1: [3]int{6, 11, 25},
			small0: [3]int{7, 18, 3}, small1: [3]int{17, 19, 10},
		}
	}
	return plan{
		bits: 64, rounds: maxRounds,
		big0: [3]int{28, 34, 39}, big1: [3]int{14, 18, 41},
		small0: [3]int{1, 8, 7}, small1: [3]int{19, 61, 6},
	}
}

// roundConstants are of 64 bits each. Their first 32 bits are the constants for the shorter words, since both are
// first bits of the same fractions.
var roundConstants = [maxRounds]uint64{
	0x428a2f98d728ae22, 0x7137449123ef65cd, 0xb5c0fbcfec4d3b2f, 0xe9b5dba58189dbbc,
	0x3956c25bf348b538, 0x59f111f1b605d019, 0x923f82a4af194f9b, 0xab1c5ed5da6d8118,
	0xd807aa98a3030242, 0x12835b0145706fbe, 0x243185be4ee4b28c, 0x550c7dc3d5ffb4e2,
	0x72be5d74f27b896f, 0x80deb1fe3b1696b1, 0x9bdc06a725c71235, 0xc19bf174cf692694,
	0xe49b69c19ef14ad2, 0xefbe4786384f25e3, 0x0fc19dc68b8cd5b5, 0x240ca1cc77ac9c65,
	0x2de92c6f592b0275, 0x4a7484aa6ea6e483, 0x5cb0a9dcbd41fbd4, 0x76f988da831153b5,
	0x983e5152ee66dfab, 0xa831c66d2db43210, 0xb00327c898fb213f, 0xbf597fc7beef0ee4,
	0xc6e00bf33da88fc2, 0xd5a79147930aa725, 0x06ca6351e003826f, 0x142929670a0e6e70,
	0x27b70a8546d22ffc, 0x2e1b21385c26c926, 0x4d2c6dfc5ac42aed, 0x53380d139d95b3df,
	0x650a73548baf63de, 0x766a0abb3c77b2a8, 0x81c2c92e47edaee6, 0x92722c851482353b,
	0xa2bfe8a14cf10364, 0xa81a664bbc423001, 0xc24b8b70d0f89791, 0xc76c51a30654be30,
	0xd192e819d6ef5218, 0xd69906245565a910, 0xf40e35855771202a, 0x106aa07032bbd1b8,
	0x19a4c116b8d2d0c8, 0x1e376c085141ab53, 0x2748774cdf8eeb99, 0x34b0bcb5e19b48a8,
	0x391c0cb3c5c95a63, 0x4ed8aa4ae3418acb, 0x5b9cca4f7763e373, 0x682e6ff3d6b2b8a3,
	0x748f82ee5defb2fc, 0x78a5636f43172f60, 0x84c87814a1f0ab72, 0x8cc702081a6439ec,
	0x90befffa23631e28, 0xa4506cebde82bde9, 0xbef9a3f7b2c67915, 0xc67178f2e372532b,
	0xca273eceea26619c, 0xd186b8c721c0c207, 0xeada7dd6cde0eb1e, 0xf57d4f7fee6ed178,
	0x06f067aa72176fba, 0x0a637dc5a2c898a6, 0x113f9804bef90dae, 0x1b710b35131c471b,
	0x28db77f523047d84, 0x32caab7b40c72493, 0x3c9ebe0a15c9bebc, 0x431d67c49c100d4c,
	0x4cc5d4becb3e42b6, 0x597f299cfc657e2a, 0x5fcb6fab3ad6faec, 0x6c44198c4a475817,
}

// initialWords returns the initial words of one of the three sizes, whose words have that many bits.
func initialWords[T word](size, bits int) [8]T {
	roots := [8]uint64{
		0x6a09e667f3bcc908, 0xbb67ae8584caa73b, 0x3c6ef372fe94f82b, 0xa54ff53a5f1d36f1,
		0x510e527fade682d1, 0x9b05688c2b3e6c1f, 0x1f83d9abfb41bd6b, 0x5be0cd19137e2179,
	}
	if size == size384 {
		roots = [8]uint64{
			0xcbbb9d5dc1059ed8, 0x629a292a367cd507, 0x9159015a3070dd17, 0x152fecd8f70e5939,
			0x67332667ffc00b31, 0x8eb44a8768581511, 0xdb0c2e0d64f98fa7, 0x47b5481dbefa4fa4,
		}
	}
	var h [8]T
	for i, root := range roots {
		h[i] = T(root >> (64 - bits))
	}
	return h
}

// rounds returns the words that follow h after a block.
func rounds[T word](p plan, h [8]T, block string) [8]T {
	w := schedule[T](p, block)
	v := h
	for i := range p.rounds {
		e, a := v[4], v[0]
		choice := e&v[5] ^ ^e&v[6]
		majority := a&v[1] ^ a&v[2] ^ v[1]&v[2]
		constant := T(roundConstants[i] >> (64 - p.bits))
		t := v[7] + rotations(e, p.big1, p.bits) + choice + constant + w[i]
		u := rotations(a, p.big0, p.bits) + majority
		v = [8]T{t + u, a, v[1], v[2], v[3] + t, e, v[5], v[6]}
	}
	for i := range h {
		h[i] += v[i]
	}
	return h
}

// schedule returns a word for each round: those of the block, and what is made of them.
func schedule[T word](p plan, block string) [maxRounds]T {
	var w [maxRounds]T
	for i := range len(block) {
		at := i / (p.bits / 8)
		w[at] = w[at]<<8 | T(block[i])
	}
	for i := 16; i < p.rounds; i++ {
		w[i] = w[i-16] + shifts(w[i-15], p.small0, p.bits) + w[i-7] + shifts(w[i-2], p.small1, p.bits)
	}
	return w
}

// rotations is S0 or S1, by its distances.
func rotations[T word](x T, by [3]int, bits int) T {
	return rotate(x, by[0], bits) ^ rotate(x, by[1], bits) ^ rotate(x, by[2], bits)
}

// shifts is s0 or s1, by its distances.
func shifts[T word](x T, by [3]int, bits int) T {
	return rotate(x, by[0], bits) ^ rotate(x, by[1], bits) ^ x>>by[2]
}

// rotate rotates x to the right.
func rotate[T word](x T, by, bits int) T {
	return x>>by | x<<(bits-by)
}
