package gcm_test

import (
	"math/rand"
	"strings"
	"testing"

	"dromond/api"
	"dromond/gcm"
)

// noKeys are of any size that is not permitted, also of 24 bytes, and of as many runes as a key has bytes.
func noKeys() []string {
	keys := []string{strings.Repeat("\u20ac", 16), strings.Repeat("é", 32), filled(1, 1<<8+16), filled(1, 1<<16+32)}
	for size := range 100 {
		if size != 16 && size != 32 {
			keys = append(keys, filled('k', size))
		}
	}
	return keys
}

// noNonces are of any size that is not permitted, and of as many runes as a nonce has bytes.
func noNonces() []string {
	nonces := []string{strings.Repeat("é", 12), strings.Repeat("\u20ac", 8), filled(1, 1<<8+12), filled(1, 1<<16+12)}
	for size := range 100 {
		if size < 8 || size > 16 {
			nonces = append(nonces, filled('n', size))
		}
	}
	return nonces
}

// noArgument fails unless both functions return ErrArg, also for tags that are ones.
func noArgument(t *testing.T, key, nonce string) {
	t.Helper()
	_, tag := sealed(t, filled('k', 16), filled('n', 12), "with", "text")
	for _, text := range []string{"", "text", filled(7, 40)} {
		if s, tag, e := gcm.Seal(key, nonce, "with", text); s != "" || tag != "" || e != api.ErrArg {
			t.Fatalf("key of %d bytes, nonce of %d: %x, tag %x, error %d", len(key), len(nonce), s, tag, e)
		}
		for _, tag := range []string{tag, "", filled(0, 16), "short"} {
			refused(t, key, nonce, "with", text, tag, api.ErrArg)
		}
	}
}

// P8.1: keys and nonces that are not permitted, one of them or both.
func TestNoArguments(t *testing.T) {
	for _, key := range noKeys() {
		noArgument(t, key, filled('n', 12))
		noArgument(t, key, filled('n', 16))
		noArgument(t, key, "short")
	}
	for _, nonce := range noNonces() {
		noArgument(t, filled('k', 16), nonce)
		noArgument(t, filled('k', 32), nonce)
		noArgument(t, "short", nonce)
	}
}

// P8.1: one changed bit anywhere: in the key, the nonce, the associated data, the sealed text or the tag.
func TestEveryChangedBit(t *testing.T) {
	r := rand.New(rand.NewSource(6))
	for _, size := range []int{16, 32} {
		for _, n := range []int{8, 12, 16} {
			key, nonce, with, text := random(r, size), random(r, n), random(r, 20), random(r, 37)
			s, tag := sealed(t, key, nonce, with, text)
			for i := range 8 * len(key) {
				refused(t, changed(key, i), nonce, with, s, tag, api.ErrSec)
			}
			for i := range 8 * len(nonce) {
				refused(t, key, changed(nonce, i), with, s, tag, api.ErrSec)
			}
			for i := range 8 * len(with) {
				refused(t, key, nonce, changed(with, i), s, tag, api.ErrSec)
			}
			for i := range 8 * len(s) {
				refused(t, key, nonce, with, changed(s, i), tag, api.ErrSec)
			}
			for i := range 8 * len(tag) {
				refused(t, key, nonce, with, s, changed(tag, i), api.ErrSec)
			}
			opens(t, key, nonce, with, s, tag, text)
		}
	}
}

// P8.1: tags of any other length, also if one begins with the tag or is begun by it, and tags of something else.
func TestOtherTags(t *testing.T) {
	r := rand.New(rand.NewSource(7))
	for _, length := range []int{0, 1, 16, 20, 48} {
		key, nonce, with, text := random(r, 16), random(r, 12), random(r, length), random(r, length)
		s, tag := sealed(t, key, nonce, with, text)
		for n := range 16 {
			refused(t, key, nonce, with, s, tag[:n], api.ErrSec)
			refused(t, key, nonce, with, s, tag[16-n:], api.ErrSec)
			refused(t, key, nonce, with, s, tag[:n]+filled(0, 16-n)+"\x00", api.ErrSec)
		}
		other, _, _ := gcm.Seal(key, nonce, "", tag)
		for _, wrong := range []string{
			tag + "\x00", "\x00" + tag, tag + tag, filled(0, 16), filled(0xff, 16), other, random(r, 16),
			gcm.Hash(filled(0, 16), with, s), strings.Repeat("\x00", 1<<16) + tag,
		} {
			refused(t, key, nonce, with, s, wrong, api.ErrSec)
		}
		opens(t, key, nonce, with, s, tag, text)
	}
}

// P8.1: what is cut short, prolonged, divided in another way or exchanged does not have the tag.
func TestOtherParts(t *testing.T) {
	r := rand.New(rand.NewSource(8))
	for _, size := range []int{1, 15, 16, 17, 32} {
		key, nonce, with, text := random(r, 32), random(r, 16), random(r, size), random(r, size)
		s, tag := sealed(t, key, nonce, with, text)
		for n := range size {
			refused(t, key, nonce, with, s[:n], tag, api.ErrSec)
			refused(t, key, nonce, with[:n], s, tag, api.ErrSec)
			refused(t, key, nonce, with[:n], with[n:]+s, tag, api.ErrSec)
			refused(t, key, nonce, with+s[:n+1], s[n+1:], tag, api.ErrSec)
		}
		refused(t, key, nonce, with, s+"\x00", tag, api.ErrSec)
		refused(t, key, nonce, with+"\x00", s, tag, api.ErrSec)
		refused(t, key, nonce, with, "\x00"+s, tag, api.ErrSec)
		refused(t, key, nonce, s, with, tag, api.ErrSec)
		refused(t, key, nonce, with, text, tag, api.ErrSec)
		refused(t, key[:16], nonce, with, s, tag, api.ErrSec)
		refused(t, key, nonce[:12], with, s, tag, api.ErrSec)
		opens(t, key, nonce, with, s, tag, text)
	}
}

// P8.2: Open reverses Seal, for texts and associated data of all lengths.
func TestReversed(t *testing.T) {
	r := rand.New(rand.NewSource(9))
	for _, size := range []int{16, 32} {
		for n := 8; n <= 16; n++ {
			for range 30 {
				key, nonce, with, text := random(r, size), random(r, n), random(r, r.Intn(60)), random(r, r.Intn(60))
				s, tag := sealed(t, key, nonce, with, text)
				opens(t, key, nonce, with, s, tag, text)
			}
		}
	}
}

// P8.2: two texts with one key and nonce differ where the sealed texts do, whatever the associated data, and as far as
// both go.
func TestTwoTextsWithOneNonce(t *testing.T) {
	r := rand.New(rand.NewSource(10))
	for _, size := range []int{16, 32} {
		for n := 8; n <= 16; n++ {
			for range 30 {
				key, nonce := random(r, size), random(r, n)
				a, b := random(r, r.Intn(60)), random(r, r.Intn(60))
				x, _ := sealed(t, key, nonce, random(r, r.Intn(30)), a)
				y, _ := sealed(t, key, nonce, random(r, r.Intn(30)), b)
				for i := range min(len(a), len(b)) {
					if a[i]^b[i] != x[i]^y[i] {
						t.Fatalf("key %x, nonce %x: %x and %x, sealed %x and %x, differ in other bits", key, nonce, a, b, x, y)
					}
				}
			}
		}
	}
}

// P8.2: with one changed bit of the key or of the nonce that is no longer so: texts are covered by other bytes.
func TestTwoTextsWithTwoNonces(t *testing.T) {
	r := rand.New(rand.NewSource(11))
	for n := 8; n <= 16; n++ {
		key, nonce, text := random(r, 16), random(r, n), random(r, 32)
		x, _ := sealed(t, key, nonce, "", text)
		for i := range 8 * n {
			if y, _ := sealed(t, key, changed(nonce, i), "", text); x[:16] == y[:16] || x[16:] == y[16:] {
				t.Fatalf("nonce of %d bytes, bit %d: %x and %x", n, i, x, y)
			}
		}
		for i := range 8 * 16 {
			if y, _ := sealed(t, changed(key, i), nonce, "", text); x[:16] == y[:16] || x[16:] == y[16:] {
				t.Fatalf("key, bit %d: %x and %x", i, x, y)
			}
		}
	}
}
