package sha_test

import (
	"math"
	"math/big"
	"testing"

	"dromond/sha"
)

// searched returns the first 64 bits of the fractional part of that root of p, by search among all numbers.
func searched(p uint64, power int64) uint64 {
	scaled := new(big.Int).Lsh(new(big.Int).SetUint64(p), uint(64*power))
	low, high := big.NewInt(0), new(big.Int).Lsh(big.NewInt(1), 80)
	for {
		middle := new(big.Int).Add(low, high)
		middle.Rsh(middle, 1)
		if middle.Cmp(low) == 0 {
			return new(big.Int).And(low, new(big.Int).SetUint64(math.MaxUint64)).Uint64()
		}
		if new(big.Int).Exp(middle, big.NewInt(power), nil).Cmp(scaled) <= 0 {
			low = middle
		} else {
			high = middle
		}
	}
}

// P5.1: both roots of every number that has them.
func TestEveryRoot(t *testing.T) {
	for p := uint64(2); p <= 1000; p++ {
		if got, want := sha.Root(p, false), searched(p, 2); got != want {
			t.Errorf("square root of %d: %016x, want %016x", p, got, want)
		}
		if got, want := sha.Root(p, true), searched(p, 3); got != want {
			t.Errorf("cube root of %d: %016x, want %016x", p, got, want)
		}
	}
}

// P5.1: roots that FIPS 180 publishes as constants.
func TestPublishedRoots(t *testing.T) {
	for _, c := range []struct {
		p    uint64
		cube bool
		want uint64
	}{
		{2, false, 0x6a09e667f3bcc908}, {19, false, 0x5be0cd19137e2179}, {53, false, 0x47b5481dbefa4fa4},
		{2, true, 0x428a2f98d728ae22}, {311, true, 0xc67178f2e372532b}, {409, true, 0x6c44198c4a475817},
	} {
		if got := sha.Root(c.p, c.cube); got != c.want {
			t.Errorf("%d, %v: %016x, want %016x", c.p, c.cube, got, c.want)
		}
	}
}

// P5.1: roots without a fractional part, and their neighbours.
func TestWholeRoots(t *testing.T) {
	for n := uint64(2); n <= 31; n++ {
		if got := sha.Root(n*n, false); got != 0 {
			t.Errorf("square root of %d: %016x", n*n, got)
		}
		if sha.Root(n*n-1, false) == 0 || n < 31 && sha.Root(n*n+1, false) == 0 {
			t.Errorf("beside %d", n*n)
		}
	}
	for n := uint64(2); n <= 10; n++ {
		if got := sha.Root(n*n*n, true); got != 0 {
			t.Errorf("cube root of %d: %016x", n*n*n, got)
		}
		if sha.Root(n*n*n-1, true) == 0 || n < 10 && sha.Root(n*n*n+1, true) == 0 {
			t.Errorf("beside %d", n*n*n)
		}
	}
}

// P5.1: any other number, also those that are from 2 to 1000 in fewer bits.
func TestNoRoot(t *testing.T) {
	for _, p := range []uint64{
		0, 1, 1001, 1002, 1003, 2000, 1<<16 + 2, 1<<16 + 1000, 1<<32 + 2, 1<<32 + 3, 1<<32 + 1000, 1<<63 + 2,
		math.MaxUint64, math.MaxUint64 - 1,
	} {
		if got := sha.Root(p, false); got != 0 {
			t.Errorf("square root of %d: %016x", p, got)
		}
		if got := sha.Root(p, true); got != 0 {
			t.Errorf("cube root of %d: %016x", p, got)
		}
	}
}
