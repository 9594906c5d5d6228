package engine_test

import (
	"crypto"
	known "crypto/aes"
	"crypto/cipher"
	"crypto/hmac"
	_ "crypto/sha256"
	_ "crypto/sha512"
	"math/rand"
	"strings"
	"testing"

	"dromond/api"
	"dromond/engine"
	"dromond/gcm"
)

// code returns what Go's library signs with.
func code(variant int, key, text string) string {
	kind := map[int]crypto.Hash{5: crypto.SHA256, 6: crypto.SHA384, 7: crypto.SHA512}[variant]
	h := hmac.New(kind.New, []byte(key))
	h.Write([]byte(text))
	return string(h.Sum(nil))
}

// libraryLock returns what Go's library seals with.
func libraryLock(t *testing.T, key string, length int) cipher.AEAD {
	t.Helper()
	c, err := known.NewCipher([]byte(key))
	if err != nil {
		t.Fatal(err)
	}
	l, err := cipher.NewGCMWithNonceSize(c, length)
	if err != nil {
		t.Fatal(err)
	}
	return l
}

// P9.2: tags are those of Go's library, for keys of all permitted lengths and for texts of several blocks.
func TestRealTags(t *testing.T) {
	r := rand.New(rand.NewSource(2))
	for _, v := range signers {
		g := engine.Real()
		for size := 1; size <= 64; size++ {
			for _, n := range []int{0, 1, 55, 56, 64, 111, 112, 128, 400, r.Intn(1000)} {
				key, text := random(r, size), random(r, n)
				want := code(v, key, text)
				if tag := signed(t, g, v, key, text); tag != want {
					t.Fatalf("variant %d, key %x, text %x: %x, want %x", v, key, text, tag, want)
				}
				holds(t, engine.Real(), v, key, text, want, api.OK)
			}
		}
	}
}

// P9.2: only the code holds: any changed bit of the tag, the key or the text, and tags of other lengths.
func TestRealHoldsNothingElse(t *testing.T) {
	g, r := engine.Real(), rand.New(rand.NewSource(3))
	for _, v := range signers {
		key, text := random(r, 20), random(r, 30)
		tag := signed(t, g, v, key, text)
		for bit := range 8 * len(tag) {
			holds(t, g, v, key, text, changed(tag, bit), api.ErrSec)
		}
		for bit := range 8 * len(key) {
			holds(t, g, v, changed(key, bit), text, tag, api.ErrSec)
		}
		for bit := range 8 * len(text) {
			holds(t, g, v, key, changed(text, bit), tag, api.ErrSec)
		}
		for n := range tag {
			holds(t, g, v, key, text, tag[:n], api.ErrSec)
			holds(t, g, v, key, text, tag[n+1:], api.ErrSec)
		}
		holds(t, g, v, key, text, tag+"\x00", api.ErrSec)
		holds(t, g, v, key, text, tag+tag, api.ErrSec)
		for _, other := range signers {
			if other != v {
				holds(t, g, other, key, text, tag, api.ErrSec)
				holds(t, g, v, key, text, signed(t, g, other, key, text)[:32], api.ErrSec)
			}
		}
	}
}

// P9.2: codes are those of layer 6, for which zero bytes behind a key change nothing.
func TestRealKeysOfZeros(t *testing.T) {
	g := engine.Real()
	for _, v := range signers {
		tag := signed(t, g, v, "key", "text")
		for size := 3; size <= 64; size++ {
			holds(t, g, v, "key"+strings.Repeat("\x00", size-3), "text", tag, api.OK)
		}
	}
}

// P9.2: what is sealed is what Go's library seals, for nonces of all permitted lengths, and is opened.
func TestRealSeals(t *testing.T) {
	g, r := engine.Real(), rand.New(rand.NewSource(4))
	for _, v := range sealers {
		for length := 8; length <= 16; length++ {
			for n := range 50 {
				key, nonce, with, text := random(r, keySizes[v]), random(r, length), random(r, r.Intn(50)), random(r, n)
				want := string(libraryLock(t, key, length).Seal(nil, []byte(nonce), []byte(text), []byte(with)))
				s, tag := sealed(t, g, v, key, nonce, with, text)
				if s+tag != want {
					t.Fatalf("variant %d, key %x, nonce %x, with %x, text %x: %x, %x, want %x",
						v, key, nonce, with, text, s, tag, want)
				}
				opens(t, engine.Real(), v, key, nonce, with, want[:n], want[n:], text)
			}
		}
	}
}

// P9.2: the seal that chapter 8 gives as its example.
func TestRealPublishedSeal(t *testing.T) {
	zeros := strings.Repeat("\x00", 16)
	s, tag := sealed(t, engine.Real(), 1, zeros, zeros[:12], "", zeros)
	if want := "\x03\x88\xda\xce\x60\xb6\xa3\x92\xf3\x28\xc2\xb9\x71\xb2\xfe\x78"; s != want {
		t.Errorf("%x, want %x", s, want)
	}
	if want := "\xab\x6e\x47\xd4\x2c\xec\x13\xbd\xf5\x3a\x67\xb2\x12\x57\xbd\xdf"; tag != want {
		t.Errorf("tag %x, want %x", tag, want)
	}
}

// P9.2: nothing else is opened: any changed bit, tags of other lengths, the other variant.
func TestRealOpensNothingElse(t *testing.T) {
	g, r := engine.Real(), rand.New(rand.NewSource(5))
	for _, v := range sealers {
		all := []string{random(r, keySizes[v]), random(r, 12), random(r, 9), random(r, 21)}
		s, tag := sealed(t, g, v, all[0], all[1], all[2], all[3])
		parts := []string{all[0], all[1], all[2], s, tag}
		for i, part := range parts {
			for bit := range 8 * len(part) {
				p := append([]string(nil), parts...)
				p[i] = changed(part, bit)
				refuses(t, g, v, p[0], p[1], p[2], p[3], p[4])
			}
		}
		for n := range tag {
			refuses(t, g, v, parts[0], parts[1], parts[2], s, tag[:n])
		}
		refuses(t, g, v, parts[0], parts[1], parts[2], s, tag+"\x00")
		refuses(t, g, v, parts[0], parts[1], parts[2], s+"\x00", tag)
		refuses(t, g, v, parts[0], parts[1], parts[2], s[1:], tag)
		refuses(t, g, 4-v, random(r, keySizes[4-v]), parts[1], parts[2], s, tag)
	}
}

// P9.2: a variant takes keys of its own length alone, although layer 8 takes both.
func TestRealKeyOfOtherVariant(t *testing.T) {
	g, key := engine.Real(), strings.Repeat("k", 32)
	for _, v := range sealers {
		other := key[:keySizes[4-v]]
		s, tag, e := gcm.Seal(other, "noncenonce", "with", "text")
		if e != api.OK {
			t.Fatal(e)
		}
		if x, e := g.Open(v, other, "noncenonce", "with", s, tag); x != "" || e != api.ErrArg {
			t.Errorf("variant %d opens %q with a key of %d bytes, error %d", v, x, len(other), e)
		}
		opens(t, g, 4-v, other, "noncenonce", "with", s, tag, "text")
	}
}
