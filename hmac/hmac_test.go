package hmac_test

import (
	"crypto"
	known "crypto/hmac"
	_ "crypto/sha256"
	_ "crypto/sha512"
	"fmt"
	"math"
	"math/rand"
	"slices"
	"strings"
	"testing"

	"dromond/hmac"
	"dromond/sha"
)

// sizes are all that layer 5 has.
var sizes = []int{256, 384, 512}

// code returns the code by Go's library.
func code(size int, key, text string) string {
	kind := map[int]crypto.Hash{256: crypto.SHA256, 384: crypto.SHA384, 512: crypto.SHA512}[size]
	h := known.New(kind.New, []byte(key))
	h.Write([]byte(text))
	return string(h.Sum(nil))
}

// agree fails unless the codes, of every size, are those of Go's library.
func agree(t *testing.T, key string, parts ...string) {
	t.Helper()
	text := strings.Join(parts, "")
	for _, size := range sizes {
		if got, want := hmac.Sum(size, key, parts...), code(size, key, text); got != want {
			t.Fatalf("size %d, key %.40x of %d bytes, text %.40x of %d bytes in %d parts: %x, want %x",
				size, key, len(key), text, len(text), len(parts), got, want)
		}
	}
}

// random returns that many bytes.
func random(r *rand.Rand, size int) string {
	b := make([]byte, size)
	r.Read(b)
	return string(b)
}

// P6.1: the chapter's example, and codes that RFC 4231 publishes.
func TestPublishedCodes(t *testing.T) {
	const nothing = "what do ya want for nothing?"
	const first = "Test Using Larger Than Block-Size Key - Hash Key First"
	long := strings.Repeat("\xaa", 131)
	for _, c := range []struct {
		size            int
		key, text, want string
	}{
		{256, "Jefe", nothing, "5bdcc146bf60754e6a042426089575c75a003f089d2739839dec58b964ec3843"},
		{384, "Jefe", nothing, "af45d2e376484031617f78d2b58a6b1b9c7ef464f5a01b47e42ec3736322445e" +
			"8e2240ca5e69e2c78b3239ecfab21649"},
		{512, "Jefe", nothing, "164b7a7bfcf819e2e395fbe73b56e0a387bd64222e831fd610270cd7ea250554" +
			"9758bf75c05a994a6d034f65f8f0e6fdcaeab1a34d4a6b4b636e070a38bce737"},
		{256, strings.Repeat("\x0b", 20), "Hi There",
			"b0344c61d8db38535ca8afceaf0bf12b881dc200c9833da726e9376c2e32cff7"},
		{256, long, first, "60e431591ee0b67f0d8a26aacbf5b77f8e0bc6213728c5140546040f0ee37f54"},
		{384, long, first, "4ece084485813e9088d2c63a041bc5b44f9ef1012a2b588f3cd11f05033ac4c6" +
			"0c2ef6ab4030fe8296248df163f44952"},
		{512, long, first, "80b24263c7c1a3ebb71493c1dd7be8b49b46d1f41b4aeec1121b013783f8f352" +
			"6b56d037e05f2598bd0fd2215d6a1e5295e64f73f63f0aec8b915a985d786598"},
	} {
		if got := fmt.Sprintf("%x", hmac.Sum(c.size, c.key, c.text)); got != c.want {
			t.Errorf("size %d, key %x, text %q: %s, want %s", c.size, c.key, c.text, got, c.want)
		}
	}
}

// P6.1: keys of every length up to several blocks, so also of a block and of one byte more.
func TestEveryKeyLength(t *testing.T) {
	r := rand.New(rand.NewSource(1))
	for size := range 3*128 + 2 {
		text := random(r, r.Intn(200))
		agree(t, random(r, size), text)
		agree(t, strings.Repeat("\x00", size), text)
		agree(t, strings.Repeat("\x36", size), text)
		agree(t, strings.Repeat("\x5c", size), text)
		agree(t, strings.Repeat("\xff", size), text)
	}
}

// P6.1: texts of every length up to several blocks, and longer ones.
func TestEveryTextLength(t *testing.T) {
	r := rand.New(rand.NewSource(2))
	for size := range 3*128 + 2 {
		agree(t, random(r, r.Intn(200)), random(r, size))
	}
	for _, size := range []int{4000, 70000, 1 << 20} {
		agree(t, random(r, 32), random(r, size))
		agree(t, random(r, size), random(r, 32))
	}
}

// P6.1: keys and texts of runes, which are more bytes than runes.
func TestRunes(t *testing.T) {
	for n := range 70 {
		agree(t, strings.Repeat("é", n), strings.Repeat("\u20ac\U0001f680", n))
		agree(t, strings.Repeat("\u20ac\U0001f680", n), strings.Repeat("é", n))
	}
}

// P6.1: no key, no parts, empty parts.
func TestEmpty(t *testing.T) {
	agree(t, "")
	agree(t, "", "")
	agree(t, "", "text")
	agree(t, "key")
	agree(t, "key", "")
	agree(t, "key", "", "", "")
	agree(t, "key", []string{}...)
}

// P6.1: parts are put together in their order, with nothing between them.
func TestParts(t *testing.T) {
	r := rand.New(rand.NewSource(3))
	for range 300 {
		parts := make([]string, r.Intn(20))
		for i := range parts {
			parts[i] = random(r, r.Intn(60))
		}
		agree(t, random(r, r.Intn(200)), parts...)
	}
	agree(t, "key", slices.Repeat([]string{"part"}, 5000)...)
}

// P6.1: any other size, also what is a size in fewer bits.
func TestNoSize(t *testing.T) {
	others := []int{
		math.MinInt, math.MinInt + 256, math.MinInt32, 1<<16 + 256, 1<<16 + 384, 1<<32 + 256, 1<<32 + 384, 1<<32 + 512,
		math.MaxInt32, math.MaxInt,
	}
	for size := -600; size <= 1100; size++ {
		if !slices.Contains(sizes, size) {
			others = append(others, size)
		}
	}
	for _, size := range others {
		for _, key := range []string{"", "key", strings.Repeat("k", 200)} {
			if a, b, c := hmac.Sum(size, key), hmac.Sum(size, key, ""), hmac.Sum(size, key, "a", "b"); a+b+c != "" {
				t.Errorf("size %d, key %q: %x, %x, %x", size, key, a, b, c)
			}
		}
	}
}

// P6.1: a code depends on its arguments alone, and they stay as they are (R5), with what lies behind them.
func TestArgumentsStay(t *testing.T) {
	r := rand.New(rand.NewSource(4))
	for range 200 {
		all := []string{random(r, 20), random(r, 70), random(r, 130), "behind", "it"}
		before, key := slices.Clone(all), random(r, r.Intn(200))
		agree(t, key, all[:3]...)
		agree(t, random(r, 30), all[:2]...)
		agree(t, key, all[:3]...)
		if !slices.Equal(all, before) {
			t.Fatalf("%x, before %x", all, before)
		}
	}
}

// P6.2: the code of a text in two parts, cut at every place, and in parts of one byte.
func TestDivision(t *testing.T) {
	r := rand.New(rand.NewSource(5))
	for _, size := range sizes {
		key, text := random(r, 40), random(r, 300)
		want := hmac.Sum(size, key, text)
		for at := range len(text) + 1 {
			if got := hmac.Sum(size, key, text[:at], text[at:]); got != want {
				t.Fatalf("size %d, cut at %d: %x, want %x", size, at, got, want)
			}
			if got := hmac.Sum(size, key, "", text[:at], "", text[at:], ""); got != want {
				t.Fatalf("size %d, cut at %d, with empty parts: %x, want %x", size, at, got, want)
			}
		}
		single := make([]string, len(text))
		for i := range single {
			single[i] = text[i : i+1]
		}
		if got := hmac.Sum(size, key, single...); got != want {
			t.Errorf("size %d, parts of one byte: %x, want %x", size, got, want)
		}
	}
}

// P6.2: zero bytes behind a key change nothing as long as both fit in a block, and do beyond it.
func TestZerosBehindKey(t *testing.T) {
	r := rand.New(rand.NewSource(6))
	for _, size := range sizes {
		block := sha.Block(size)
		for _, n := range []int{0, 1, 20, sha.Size(size), block - 1, block} {
			key := random(r, n)
			want := hmac.Sum(size, key, "text")
			for m := n; m <= block; m++ {
				if got := hmac.Sum(size, key+strings.Repeat("\x00", m-n), "text"); got != want {
					t.Fatalf("size %d, key of %d bytes, %d with zeros: %x, want %x", size, n, m, got, want)
				}
			}
			if hmac.Sum(size, key+strings.Repeat("\x00", block+1-n), "text") == want {
				t.Errorf("size %d, key of %d bytes: zeros beyond a block change nothing", size, n)
			}
		}
	}
}

// P6.2: a key longer than a block stands for its digest; a key of a block does not.
func TestLongKeys(t *testing.T) {
	r := rand.New(rand.NewSource(7))
	for _, size := range sizes {
		block := sha.Block(size)
		for _, n := range []int{block + 1, block + 2, 2*block - 1, 2 * block, 2*block + 1, 4000} {
			key, text := random(r, n), random(r, r.Intn(300))
			if got, want := hmac.Sum(size, key, text), hmac.Sum(size, sha.Sum(size, key), text); got != want {
				t.Errorf("size %d, key of %d bytes: %x, by its digest %x", size, n, got, want)
			}
		}
		key := random(r, block)
		if hmac.Sum(size, key, "text") == hmac.Sum(size, sha.Sum(size, key), "text") {
			t.Errorf("size %d: a key of a block stands for its digest", size)
		}
	}
}
