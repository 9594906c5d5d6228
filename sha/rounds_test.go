package sha

import "testing"

// primes returns the first n primes.
func primes(n int) []uint64 {
	var found []uint64
next:
	for p := uint64(2); len(found) < n; p++ {
		for _, q := range found {
			if p%q == 0 {
				continue next
			}
		}
		found = append(found, p)
	}
	return found
}

// P5.1: the constants that are written out are the roots that the chapter names.
func TestRoundConstants(t *testing.T) {
	for i, p := range primes(maxRounds) {
		if got, want := roundConstants[i], Root(p, true); got != want {
			t.Errorf("constant %d: %016x, want %016x", i, got, want)
		}
	}
}

// P5.1: so are the initial words.
func TestInitialWords(t *testing.T) {
	short, whole, later := initialWords[uint32](256, 32), initialWords[uint64](512, 64), initialWords[uint64](384, 64)
	p := primes(16)
	for i := range 8 {
		root := Root(p[i], false)
		if short[i] != uint32(root>>32) || whole[i] != root {
			t.Errorf("word %d: %08x and %016x, want %016x", i, short[i], whole[i], root)
		}
		if want := Root(p[i+8], false); later[i] != want {
			t.Errorf("word %d of size 384: %016x, want %016x", i, later[i], want)
		}
	}
}
