package aes_test

import (
	known "crypto/aes"
	"fmt"
	"math/bits"
	"math/rand"
	"strings"
	"testing"

	"dromond/aes"
	"dromond/api"
)

// made returns the cipher of a key that is one.
func made(t *testing.T, key string) *aes.Cipher {
	t.Helper()
	c, e := aes.New(key)
	if c == nil || e != api.OK {
		t.Fatalf("key %x: %v, error %d", key, c, e)
	}
	return c
}

// random returns that many bytes.
func random(r *rand.Rand, size int) string {
	b := make([]byte, size)
	r.Read(b)
	return string(b)
}

// bytesOf returns the bytes that s spells in hexadecimal.
func bytesOf(t *testing.T, s string) string {
	t.Helper()
	var b []byte
	if _, err := fmt.Sscanf(s, "%x", &b); err != nil {
		t.Fatal(err)
	}
	return string(b)
}

// filled returns that many bytes b.
func filled(b byte, size int) string {
	return strings.Repeat(string([]byte{b}), size)
}

// agree fails unless the cipher encrypts and decrypts the block as Go's library does.
func agree(t *testing.T, c *aes.Cipher, key, b string) {
	t.Helper()
	k, err := known.NewCipher([]byte(key))
	if err != nil {
		t.Fatal(err)
	}
	var there, back [16]byte
	k.Encrypt(there[:], []byte(b))
	k.Decrypt(back[:], []byte(b))
	if got := c.Do(b); got != string(there[:]) {
		t.Fatalf("key %x: %x encrypted: %x, want %x", key, b, got, there)
	}
	if got := c.Undo(b); got != string(back[:]) {
		t.Fatalf("key %x: %x decrypted: %x, want %x", key, b, got, back)
	}
}

// P7.1: the chapter's example, which FIPS 197 has too, and blocks that FIPS 197 and SP 800-38A publish.
func TestPublishedBlocks(t *testing.T) {
	const counted = "000102030405060708090a0b0c0d0e0f101112131415161718191a1b1c1d1e1f"
	const short = "2b7e151628aed2a6abf7158809cf4f3c"
	const long = "603deb1015ca71be2b73aef0857d77811f352c073b6108d72d9810a30914dff4"
	for _, c := range [][3]string{
		{counted[:32], "00112233445566778899aabbccddeeff", "69c4e0d86a7b0430d8cdb78070b4c55a"},
		{counted, "00112233445566778899aabbccddeeff", "8ea2b7ca516745bfeafc49904b496089"},
		{short, "3243f6a8885a308d313198a2e0370734", "3925841d02dc09fbdc118597196a0b32"},
		{short, "6bc1bee22e409f96e93d7e117393172a", "3ad77bb40d7a3660a89ecaf32466ef97"},
		{short, "ae2d8a571e03ac9c9eb76fac45af8e51", "f5d3d58503b9699de785895a96fdbaaf"},
		{short, "30c81c46a35ce411e5fbc1191a0a52ef", "43b1cd7f598ece23881b00e3ed030688"},
		{short, "f69f2445df4f9b17ad2b417be66c3710", "7b0c785e27e8ad3f8223207104725dd4"},
		{long, "6bc1bee22e409f96e93d7e117393172a", "f3eed1bdb5d2a03c064b5a7e3db181f8"},
		{long, "ae2d8a571e03ac9c9eb76fac45af8e51", "591ccb10d410ed26dc5ba74a31362870"},
		{long, "30c81c46a35ce411e5fbc1191a0a52ef", "b6ed21b99ca6f4f9f153e7b1beafed1d"},
		{long, "f69f2445df4f9b17ad2b417be66c3710", "23304b7a39f9f3ff067d8d8f9e24ecc7"},
		{filled('0', 32), filled('0', 32), "66e94bd4ef8a2c3b884cfa59ca342b2e"},
		{filled('0', 64), filled('0', 32), "dc95c078a2408989ad48a21492842087"},
	} {
		x := made(t, bytesOf(t, c[0]))
		if got := fmt.Sprintf("%x", x.Do(bytesOf(t, c[1]))); got != c[2] {
			t.Errorf("key %s: %s encrypted: %s, want %s", c[0], c[1], got, c[2])
		}
		if got := fmt.Sprintf("%x", x.Undo(bytesOf(t, c[2]))); got != c[1] {
			t.Errorf("key %s: %s decrypted: %s, want %s", c[0], c[2], got, c[1])
		}
	}
}

// P7.1: the number of rounds, for any key of these sizes.
func TestRounds(t *testing.T) {
	r := rand.New(rand.NewSource(1))
	for size, want := range map[int]int{16: 10, 32: 14} {
		for _, key := range []string{
			filled(0, size), filled(0xff, size), strings.Repeat("é", size/2), random(r, size), random(r, size),
		} {
			if got := made(t, key).Rounds(); got != want {
				t.Errorf("key %x: %d rounds, want %d", key, got, want)
			}
		}
	}
}

// P7.1: keys of any other size, also of 24 bytes, and keys whose runes are as many as the bytes of a key.
func TestNoKey(t *testing.T) {
	keys := []string{
		strings.Repeat("\u20ac", 16), strings.Repeat("é", 32), filled(1, 1<<8+16), filled(1, 1<<16+32), filled(1, 1<<20),
	}
	for size := range 200 {
		if size != 16 && size != 32 {
			keys = append(keys, filled(0, size), filled('k', size), filled(0xff, size))
		}
	}
	for _, key := range keys {
		if c, e := aes.New(key); c != nil || e != api.ErrArg {
			t.Errorf("key %.80x of %d bytes: %v, error %d", key, len(key), c, e)
		}
	}
}

// P7.1: random keys and blocks.
func TestRandom(t *testing.T) {
	r := rand.New(rand.NewSource(2))
	for range 1000 {
		for _, size := range []int{16, 32} {
			key := random(r, size)
			c := made(t, key)
			for range 5 {
				agree(t, c, key, random(r, 16))
			}
		}
	}
}

// P7.1: keys and blocks with one bit that is set, and with one that is not.
func TestEveryBit(t *testing.T) {
	for _, size := range []int{16, 32} {
		for _, rest := range []byte{0, 0xff} {
			empty := filled(rest, 16)
			for i := range 8 * size {
				key := []byte(filled(rest, size))
				key[i/8] ^= 1 << (i % 8)
				agree(t, made(t, string(key)), string(key), empty)
			}
			key := filled(rest, size)
			c := made(t, key)
			for i := range 8 * 16 {
				b := []byte(empty)
				b[i/8] ^= 1 << (i % 8)
				agree(t, c, key, string(b))
			}
		}
	}
}

// P7.1: every byte at every place of a block and of a key.
func TestEveryByte(t *testing.T) {
	for _, size := range []int{16, 32} {
		base := filled(0x5a, size)
		c := made(t, base)
		for v := range 256 {
			for i := range 16 {
				b := []byte(filled(0xa5, 16))
				b[i] = byte(v)
				agree(t, c, base, string(b))
			}
			for i := range size {
				key := []byte(base)
				key[i] = byte(v)
				agree(t, made(t, string(key)), string(key), filled(0xa5, 16))
			}
		}
	}
}

// P7.1: what is no block: any other size, also of several blocks, and as many runes as a block has bytes.
func TestNoBlock(t *testing.T) {
	others := []string{strings.Repeat("é", 16), strings.Repeat("\u20ac", 16), filled(0, 1<<16+16)}
	for size := range 100 {
		if size != 16 {
			others = append(others, filled(0, size), filled('b', size), filled(0xff, size))
		}
	}
	for _, size := range []int{16, 32} {
		c := made(t, filled('k', size))
		for _, b := range others {
			if x, y := c.Do(b), c.Undo(b); x+y != "" {
				t.Errorf("key of %d bytes, %.80x of %d bytes: encrypted %x, decrypted %x", size, b, len(b), x, y)
			}
		}
		agree(t, c, filled('k', size), strings.Repeat("é", 8))
	}
}

// P7.1: a result depends on the key and the block alone, not on what the cipher, or another one, did before (R7).
func TestCiphersAreIndependent(t *testing.T) {
	r := rand.New(rand.NewSource(3))
	keys := []string{random(r, 16), random(r, 32), random(r, 16), random(r, 32)}
	var all []*aes.Cipher
	for _, key := range keys {
		all = append(all, made(t, key))
	}
	b := random(r, 16)
	for range 500 {
		i := r.Intn(len(all))
		agree(t, all[i], keys[i], random(r, 16))
		all[i].Do("short")
		all[i].Undo("short")
		aes.New("short")
		agree(t, all[i], keys[i], b)
		if want := len(keys[i])/4 + 6; all[i].Rounds() != want {
			t.Fatalf("%d rounds, want %d", all[i].Rounds(), want)
		}
	}
	for i, key := range keys {
		agree(t, made(t, key), key, b)
		agree(t, all[i], key, b)
	}
}

// P7.2: Undo reverses Do, and Do reverses Undo, however often they are applied.
func TestReversed(t *testing.T) {
	r := rand.New(rand.NewSource(4))
	for _, size := range []int{16, 32} {
		for range 50 {
			c, b := made(t, random(r, size)), random(r, 16)
			there, back := []string{b}, []string{b}
			for i := range 20 {
				there, back = append(there, c.Do(there[i])), append(back, c.Undo(back[i]))
				if len(there[i+1]) != 16 || len(back[i+1]) != 16 {
					t.Fatalf("%x encrypted: %x, %x decrypted: %x", there[i], there[i+1], back[i], back[i+1])
				}
				if got := c.Undo(there[i+1]); got != there[i] {
					t.Fatalf("%x encrypted and decrypted: %x", there[i], got)
				}
				if got := c.Do(back[i+1]); got != back[i] {
					t.Fatalf("%x decrypted and encrypted: %x", back[i], got)
				}
			}
		}
	}
}

// P7.2: as encrypting is reversed, different blocks stay different. About half of the bits change with one bit of
// the block or of the key.
func TestChange(t *testing.T) {
	r := rand.New(rand.NewSource(5))
	for _, size := range []int{16, 32} {
		changed, cases := 0, 0
		for range 20 {
			key, b := random(r, size), random(r, 16)
			from := made(t, key).Do(b)
			for i := range 8 * (size + 16) {
				both := []byte(key + b)
				both[i/8] ^= 1 << (i % 8)
				to := made(t, string(both[:size])).Do(string(both[size:]))
				if to == from {
					t.Fatalf("key %x, block %x: bit %d changes nothing", key, b, i)
				}
				for j := range len(from) {
					changed += bits.OnesCount8(from[j] ^ to[j])
				}
				cases++
			}
		}
		if mean := float64(changed) / float64(cases); mean < 63 || mean > 65 {
			t.Errorf("key of %d bytes: one bit changes %.2f bits", size, mean)
		}
	}
}

// R1: a cipher that New did not make does not panic, for any text, and what is no block is none for it either.
func TestCipherNotMade(t *testing.T) {
	var c aes.Cipher
	for size := range 40 {
		b := filled(7, size)
		if size != 16 && c.Do(b)+c.Undo(b) != "" {
			t.Errorf("%d bytes: %x and %x", size, c.Do(b), c.Undo(b))
		}
	}
	b := filled(7, 16)
	if x, y := c.Undo(c.Do(b)), c.Do(c.Undo(b)); x != b || y != b || c.Rounds() != 0 {
		t.Errorf("%x and %x, %d rounds", x, y, c.Rounds())
	}
}
