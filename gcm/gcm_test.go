package gcm_test

import (
	known "crypto/aes"
	"crypto/cipher"
	"encoding/binary"
	"fmt"
	"math/rand"
	"strings"
	"testing"

	"dromond/aes"
	"dromond/api"
	"dromond/gcm"
)

// random returns that many bytes.
func random(r *rand.Rand, size int) string {
	b := make([]byte, size)
	r.Read(b)
	return string(b)
}

// filled returns that many bytes b.
func filled(b byte, size int) string {
	return strings.Repeat(string([]byte{b}), size)
}

// bytesOf returns the bytes that s spells in hexadecimal.
func bytesOf(t *testing.T, s string) string {
	t.Helper()
	if s == "" {
		return ""
	}
	var b []byte
	if _, err := fmt.Sscanf(s, "%x", &b); err != nil {
		t.Fatal(err)
	}
	return string(b)
}

// changed returns b with that bit changed.
func changed(b string, bit int) string {
	c := []byte(b)
	c[bit/8] ^= 1 << (bit % 8)
	return string(c)
}

// sealed returns what Seal returns for a key and a nonce that are permitted.
func sealed(t *testing.T, key, nonce, with, text string) (string, string) {
	t.Helper()
	s, tag, e := gcm.Seal(key, nonce, with, text)
	if e != api.OK || len(s) != len(text) || len(tag) != 16 {
		t.Fatalf("key %x, nonce %x: %d bytes sealed: %d bytes, tag %x, error %d", key, nonce, len(text), len(s), tag, e)
	}
	return s, tag
}

// opens fails unless Open returns that text.
func opens(t *testing.T, key, nonce, with, s, tag, text string) {
	t.Helper()
	if got, e := gcm.Open(key, nonce, with, s, tag); got != text || e != api.OK {
		t.Fatalf("key %x, nonce %x, %.80x, tag %x: opened %.80x, error %d, want %.80x", key, nonce, s, tag, got, e, text)
	}
}

// refused fails unless Open returns that error.
func refused(t *testing.T, key, nonce, with, s, tag string, want api.Errno) {
	t.Helper()
	if got, e := gcm.Open(key, nonce, with, s, tag); got != "" || e != want {
		t.Fatalf("key %x, nonce %x, with %.80x, %.80x, tag %x: opened %.80x, error %d, want %d",
			key, nonce, with, s, tag, got, e, want)
	}
}

// agree fails unless the text is sealed as by Go's library, and opened again.
func agree(t *testing.T, key, nonce, with, text string) {
	t.Helper()
	k, err := known.NewCipher([]byte(key))
	if err != nil {
		t.Fatal(err)
	}
	g, err := cipher.NewGCMWithNonceSize(k, len(nonce))
	if err != nil {
		t.Fatal(err)
	}
	s, tag := sealed(t, key, nonce, with, text)
	if want := string(g.Seal(nil, []byte(nonce), []byte(text), []byte(with))); s+tag != want {
		t.Fatalf("key %x, nonce %x, with %.80x of %d bytes, text %.80x of %d bytes: %x %x, want %x",
			key, nonce, with, len(with), text, len(text), s, tag, want)
	}
	opens(t, key, nonce, with, s, tag, text)
}

// P8.1: the chapter's example, and the test cases of the authors of GCM that have nonces of these sizes.
func TestPublishedSeals(t *testing.T) {
	const short = "feffe9928665731c6d6a8f9467308308"
	const plain = "cafebabefacedbaddecaf888"
	const eight = "cafebabefacedbad"
	const with = "feedfacedeadbeeffeedfacedeadbeefabaddad2"
	const text = "d9313225f88406e5a55909c5aff5269a86a7a9531534f7da2e4c303d8a318a72" +
		"1c3c0c95956809532fcf0e2449a6b525b16aedf5aa0de657ba637b391aafd255"
	const shortSealed = "42831ec2217774244b7221b784d0d49ce3aa212f2c02a4e035c17e2329aca12e" +
		"21d514b25466931c7d8f6a5aac84aa051ba30b396a0aac973d58e091473f5985"
	const longSealed = "522dc1f099567d07f47f37a32a84427d643a8cdcbfe5c0c97598a2bd2555d1aa" +
		"8cb08e48590dbb3da7b08b1056828838c5f61e6393ba7a0abcc9f662898015ad"
	zeros := strings.Repeat("0", 64)
	for _, c := range [][6]string{
		{zeros[:32], zeros[:24], "", "", "", "58e2fccefa7e3061367f1d57a4e7455a"},
		{zeros[:32], zeros[:24], "", zeros[:32], "0388dace60b6a392f328c2b971b2fe78", "ab6e47d42cec13bdf53a67b21257bddf"},
		{short, plain, "", text, shortSealed, "4d5c2af327cd64a62cf35abd2ba6fab4"},
		{short, plain, with, text[:120], shortSealed[:120], "5bc94fbc3221a5db94fae95ae7121a47"},
		{short, eight, with, text[:120], "61353b4c2806934a777ff51fa22a4755699b2a714fcdc6f83766e5f97b6c7423" +
			"73806900e49f24b22b097544d4896b424989b5e1ebac0f07c23f4598", "3612d2e79e3b0785561be14aaca2fccb"},
		{zeros, zeros[:24], "", "", "", "530f8afbc74536b9a963b4f1c4cb738b"},
		{zeros, zeros[:24], "", zeros[:32], "cea7403d4d606b6e074ec5d3baf39d18", "d0d1c8a799996bf0265b98b5d48ab919"},
		{short + short, plain, "", text, longSealed, "b094dac5d93471bdec1a502270e3cc6c"},
		{short + short, plain, with, text[:120], longSealed[:120], "76fc6ece0f4e1768cddf8853bb2d551b"},
		{short + short, eight, with, text[:120], "c3762df1ca787d32ae47c13bf19844cbaf1ae14d0b976afac52ff7d79bba9de0" +
			"feb582d33934a4f0954cc2363bc73f7862ac430e64abe499f47c9b1f", "3a337dbf46a792c45e454913fe2ea8f2"},
	} {
		key, nonce, with, text := bytesOf(t, c[0]), bytesOf(t, c[1]), bytesOf(t, c[2]), bytesOf(t, c[3])
		s, tag, e := gcm.Seal(key, nonce, with, text)
		if fmt.Sprintf("%x", s) != c[4] || fmt.Sprintf("%x", tag) != c[5] || e != api.OK {
			t.Errorf("%q: %x, tag %x, error %d", c, s, tag, e)
		}
		opens(t, key, nonce, with, s, tag, text)
	}
}

// P8.1: nonces of all sizes that are permitted.
func TestEveryNonce(t *testing.T) {
	r := rand.New(rand.NewSource(1))
	for _, size := range []int{16, 32} {
		for n := 8; n <= 16; n++ {
			for range 20 {
				agree(t, random(r, size), random(r, n), random(r, r.Intn(50)), random(r, r.Intn(50)))
			}
			agree(t, random(r, size), filled(0, n), "", "")
			agree(t, random(r, size), filled(0xff, n), "a", "b")
			agree(t, random(r, size), strings.Repeat("é", n)[:n], "with", "text")
		}
	}
}

// P8.1: texts and associated data of every length up to several blocks, and longer ones.
func TestEveryLength(t *testing.T) {
	r := rand.New(rand.NewSource(2))
	for _, size := range []int{16, 32} {
		for n := range 70 {
			for _, m := range []int{0, 1, 15, 16, 17, 31, 32, 33, 48, 70} {
				agree(t, random(r, size), random(r, 12), random(r, n), random(r, m))
				agree(t, random(r, size), random(r, 16), random(r, m), random(r, n))
			}
		}
		for _, n := range []int{255 * 16, 4000, 4097, 1 << 16, 1<<17 + 5} {
			agree(t, random(r, size), random(r, 12), random(r, n), random(r, n))
		}
	}
}

// nonceOf returns the nonce of 16 bytes with that first counter block, which is ((nonce h) + lengths) h, by division.
func nonceOf(t *testing.T, key, first string) string {
	t.Helper()
	c, e := aes.New(key)
	if e != api.OK {
		t.Fatal(e)
	}
	by := inverse(c.Do(zero))
	lengths := filled(0, 15) + "\x80"
	return gcm.Times(xor(gcm.Times(first, by), lengths), by)
}

// P8.1: the number of a counter block goes on from its highest value to 0, and the bytes ahead of it stay.
func TestCounterGoesRound(t *testing.T) {
	r := rand.New(rand.NewSource(3))
	for _, size := range []int{16, 32} {
		for _, number := range []string{
			"\xff\xff\xff\xff", "\xff\xff\xff\xfe", "\xff\xff\xff\xfd", "\xff\xff\xff\xf0", "\x00\x00\x00\xff",
			"\x00\x00\xff\xff", "\x00\xff\xff\xff", "\x7f\xff\xff\xff", "\x00\x00\x00\x00",
		} {
			for _, ahead := range []string{filled(0, 12), filled(0xff, 12), random(r, 12)} {
				key := random(r, size)
				nonce := nonceOf(t, key, ahead+number)
				text := random(r, 100)
				agree(t, key, nonce, "with", text)
				// That the nonce is the right one shows in the text: it is XORed with these encrypted blocks.
				s, _ := sealed(t, key, nonce, "with", text)
				c, _ := aes.New(key)
				for i := range 6 {
					next := binary.BigEndian.AppendUint32(nil, binary.BigEndian.Uint32([]byte(number))+uint32(i+1))
					if want := xor(text[16*i:][:16], c.Do(ahead+string(next))); s[16*i:][:16] != want {
						t.Fatalf("key %x, first counter block %x%x, block %d: %x, want %x", key, ahead, number, i, s[16*i:][:16], want)
					}
				}
			}
		}
	}
}

// hash goes block by block, as the chapter does.
func hash(h, with, text string) string {
	padded := func(s string) string { return s + filled(0, (16-len(s)%16)%16) }
	all := padded(with) + padded(text)
	all += string(binary.BigEndian.AppendUint64(nil, 8*uint64(len(with))))
	all += string(binary.BigEndian.AppendUint64(nil, 8*uint64(len(text))))
	value := zero
	for ; all != ""; all = all[16:] {
		value = product(xor(value, all[:16]), h)
	}
	return value
}

// P8.1: hashes of strings of every length up to some blocks.
func TestHash(t *testing.T) {
	r := rand.New(rand.NewSource(4))
	for n := range 35 {
		for m := range 35 {
			h, with, text := random(r, 16), random(r, n), random(r, m)
			if got, want := gcm.Hash(h, with, text), hash(h, with, text); got != want {
				t.Fatalf("block %x, %x and %x: %x, want %x", h, with, text, got, want)
			}
		}
	}
	for _, h := range []string{zero, one, filled(0xff, 16), strings.Repeat("é", 8)} {
		long := random(r, 4000)
		if got, want := gcm.Hash(h, long[:3000], long), hash(h, long[:3000], long); got != want {
			t.Errorf("block %x, 3000 and 4000 bytes: %x, want %x", h, got, want)
		}
		if gcm.Hash(h, "", "") != zero {
			t.Errorf("block %x, nothing: %x", h, gcm.Hash(h, "", ""))
		}
	}
}

// P8.1: hashes that the authors of GCM publish.
func TestPublishedHashes(t *testing.T) {
	for _, c := range [][4]string{
		{"66e94bd4ef8a2c3b884cfa59ca342b2e", "", "0388dace60b6a392f328c2b971b2fe78", "f38cbb1ad69223dcc3457ae5b6b0f885"},
		{"b83b533708bf535d0aa6e52980d53b78", "feedfacedeadbeeffeedfacedeadbeefabaddad2",
			"42831ec2217774244b7221b784d0d49ce3aa212f2c02a4e035c17e2329aca12e" +
				"21d514b25466931c7d8f6a5aac84aa051ba30b396a0aac973d58e091", "698e57f70e6ecc7fd9463b7260a9ae5f"},
		{"b83b533708bf535d0aa6e52980d53b78", "", "cafebabefacedbad", "c43a83c4c4badec4354ca984db252f7d"},
	} {
		if got := fmt.Sprintf("%x", gcm.Hash(bytesOf(t, c[0]), bytesOf(t, c[1]), bytesOf(t, c[2]))); got != c[3] {
			t.Errorf("%q: %s", c, got)
		}
	}
}

// P8.1: each string is padded by itself, and their lengths count, so that no two pairs of these have one hash.
func TestHashesOfDivisions(t *testing.T) {
	h, text := random(rand.New(rand.NewSource(5)), 16), filled(0, 48)
	from := map[string]string{}
	for n := range len(text) + 1 {
		for m := range len(text) + 1 {
			got, pair := gcm.Hash(h, text[:n], text[:m]), fmt.Sprint(n, " and ", m)
			if before, ok := from[got]; ok {
				t.Fatalf("%s zero bytes, %s zero bytes: both %x", before, pair, got)
			}
			from[got] = pair
		}
	}
}

// P8.1: with what is no block nothing is hashed.
func TestHashWithNoBlock(t *testing.T) {
	others := []string{strings.Repeat("é", 16), filled(1, 1<<8+16), filled(1, 1<<16+16)}
	for size := range 100 {
		if size != 16 {
			others = append(others, filled(0, size), filled(0xff, size))
		}
	}
	for _, h := range others {
		if a, b, c := gcm.Hash(h, "", ""), gcm.Hash(h, "a", ""), gcm.Hash(h, "a", filled(1, 40)); a+b+c != "" {
			t.Errorf("%.80x of %d bytes: %x, %x, %x", h, len(h), a, b, c)
		}
	}
}
