package sha_test

import (
	"crypto/sha256"
	"crypto/sha512"
	"fmt"
	"math"
	"math/rand"
	"strings"
	"testing"

	"dromond/sha"
)

// sizes are all that there are.
var sizes = []int{256, 384, 512}

// noSizes are others: neighbours, sizes of other digests, bytes for bits, and what is a size in fewer bits.
var noSizes = []int{
	math.MinInt, math.MinInt + 256, math.MinInt32, -512, -384, -256, -1, 0, 1, 8, 32, 48, 64, 128, 160, 224, 255, 257,
	320, 383, 385, 511, 513, 768, 1024, 1<<16 + 256, 1<<16 + 384, 1<<32 + 256, 1<<32 + 384, 1<<32 + 512,
	math.MaxInt32, math.MaxInt,
}

// known returns the digest by Go's library.
func known(size int, b string) string {
	switch size {
	case 256:
		d := sha256.Sum256([]byte(b))
		return string(d[:])
	case 384:
		d := sha512.Sum384([]byte(b))
		return string(d[:])
	}
	d := sha512.Sum512([]byte(b))
	return string(d[:])
}

// agree fails unless the digests of b are those of Go's library.
func agree(t *testing.T, b string) {
	t.Helper()
	for _, size := range sizes {
		if got, want := sha.Sum(size, b), known(size, b); got != want {
			t.Fatalf("size %d, %d bytes %.40x: %x, want %x", size, len(b), b, got, want)
		}
	}
}

// random returns that many bytes.
func random(r *rand.Rand, size int) string {
	b := make([]byte, size)
	r.Read(b)
	return string(b)
}

// P5.1: the chapter's example, and digests that FIPS 180 publishes.
func TestPublishedDigests(t *testing.T) {
	const long256 = "abcdbcdecdefdefgefghfghighijhijkijkljklmklmnlmnomnopnopq"
	const long512 = "abcdefghbcdefghicdefghijdefghijkefghijklfghijklmghijklmnhijklmnoijklmnopjklmnopqklmnopqrlmnopqrsmnopqrstnopqrstu"
	for _, c := range []struct {
		size    int
		b, want string
	}{
		{256, "", "e3b0c44298fc1c149afbf4c8996fb92427ae41e4649b934ca495991b7852b855"},
		{256, "abc", "ba7816bf8f01cfea414140de5dae2223b00361a396177a9cb410ff61f20015ad"},
		{256, long256, "248d6a61d20638b8e5c026930c3e6039a33ce45964ff2167f6ecedd419db06c1"},
		{384, "", "38b060a751ac96384cd9327eb1b1e36a21fdb71114be07434c0cc7bf63f6e1da274edebfe76f65fbd51ad2f14898b95b"},
		{384, "abc", "cb00753f45a35e8bb5a03d699ac65007272c32ab0eded1631a8b605a43ff5bed8086072ba1e7cc2358baeca134c825a7"},
		{384, long512, "09330c33f71147e83d192fc782cd1b4753111b173b3b05d22fa08086e3b0f712fcc7c71a557e2db966c3e9fa91746039"},
		{512, "", "cf83e1357eefb8bdf1542850d66d8007d620e4050b5715dc83f4a921d36ce9ce" +
			"47d0d13c5d85f2b0ff8318d2877eec2f63b931bd47417a81a538327af927da3e"},
		{512, "abc", "ddaf35a193617abacc417349ae20413112e6fa4e89a97ea20a9eeee64b55d39a" +
			"2192992a274fc1a836ba3c23a3feebbd454d4423643ce80e2a9ac94fa54ca49f"},
		{512, long512, "8e959b75dae313da8cf4f72814fc143f8f7779c6eb9f7fa17299aeadb6889018" +
			"501d289e4900f7e4331b99dec4b5433ac7d329eeb6dd26545e96e55b874be909"},
	} {
		if got := fmt.Sprintf("%x", sha.Sum(c.size, c.b)); got != c.want {
			t.Errorf("size %d of %q: %s, want %s", c.size, c.b, got, c.want)
		}
	}
}

// P5.1: every text of one byte.
func TestOneByte(t *testing.T) {
	for i := range 256 {
		agree(t, string([]byte{byte(i)}))
	}
}

// P5.1: texts of every length up to several blocks, so of every padding: any bytes, and equal ones.
func TestEveryPadding(t *testing.T) {
	r := rand.New(rand.NewSource(1))
	for size := range 4*128 + 2 {
		agree(t, random(r, size))
		agree(t, strings.Repeat("\x00", size))
		agree(t, strings.Repeat("\x80", size))
		agree(t, strings.Repeat("\xff", size))
	}
}

// P5.1: texts of runes, which are more bytes than runes.
func TestRunes(t *testing.T) {
	for n := range 100 {
		agree(t, strings.Repeat("é", n))
		agree(t, strings.Repeat("\u20ac\U0001f680", n))
	}
}

// P5.1: long texts, whose lengths in bits take two, three and four bytes.
func TestLongTexts(t *testing.T) {
	r := rand.New(rand.NewSource(2))
	for _, size := range []int{3999, 4000, 4001, 8191, 8192, 8193, 70000, 1 << 21, 1<<21 + 1} {
		agree(t, random(r, size))
	}
	agree(t, strings.Repeat("a", 1000000))
}

// P5.1: a digest depends on its arguments alone, whatever was computed before it.
func TestSameAgain(t *testing.T) {
	r := rand.New(rand.NewSource(3))
	for range 200 {
		a, b := random(r, r.Intn(300)), random(r, r.Intn(300))
		agree(t, a)
		agree(t, b)
		agree(t, a)
	}
}

// P5.1: the bytes of blocks and of digests.
func TestSizes(t *testing.T) {
	for _, c := range []struct{ size, block, bytes int }{{256, 64, 32}, {384, 128, 48}, {512, 128, 64}} {
		if got := sha.Block(c.size); got != c.block {
			t.Errorf("Block(%d) = %d", c.size, got)
		}
		if got := sha.Size(c.size); got != c.bytes {
			t.Errorf("Size(%d) = %d", c.size, got)
		}
	}
}

// P5.1: any other size.
func TestNoSize(t *testing.T) {
	others := append([]int{}, noSizes...)
	for size := -600; size <= 1100; size++ {
		if size != 256 && size != 384 && size != 512 {
			others = append(others, size)
		}
	}
	for _, size := range others {
		if got := sha.Block(size); got != 0 {
			t.Errorf("Block(%d) = %d", size, got)
		}
		if got := sha.Size(size); got != 0 {
			t.Errorf("Size(%d) = %d", size, got)
		}
		for _, b := range []string{"", "abc", strings.Repeat("a", 200)} {
			if got := sha.Sum(size, b); got != "" {
				t.Errorf("Sum(%d, %q) = %x", size, b, got)
			}
		}
	}
}

// P5.2: digests of texts of all lengths, and what other sizes have instead.
func TestLengthOfDigests(t *testing.T) {
	r := rand.New(rand.NewSource(4))
	for size := range 300 {
		b := random(r, size)
		for _, s := range append(append([]int{}, sizes...), noSizes...) {
			if got := sha.Sum(s, b); len(got) != sha.Size(s) {
				t.Fatalf("Sum(%d, %x) has %d bytes, want %d", s, b, len(got), sha.Size(s))
			}
		}
	}
}
