package engine_test

import (
	"math"
	"math/rand"
	"slices"
	"strings"
	"testing"

	"dromond/api"
	"dromond/engine"
)

// signers and sealers are all variants, sizes are those of their tags, and keySizes are those of the keys that seal.
var (
	signers  = []int{5, 6, 7}
	sealers  = []int{1, 3}
	sizes    = map[int]int{1: 16, 3: 16, 5: 32, 6: 48, 7: 64}
	keySizes = map[int]int{1: 16, 3: 32}
)

// some are variants and numbers near them, and numbers that are a variant in fewer bits.
func some() []int {
	l := []int{math.MinInt, math.MinInt + 5, math.MinInt32, math.MaxInt32, math.MaxInt, 256, 384, 512}
	for _, v := range append(signers, sealers...) {
		l = append(l, -v, 1<<8+v, 1<<16+v, 1<<32+v, math.MinInt+v, v<<8)
	}
	for v := -20; v <= 70; v++ {
		l = append(l, v)
	}
	return l
}

// random returns that many bytes.
func random(r *rand.Rand, size int) string {
	b := make([]byte, size)
	r.Read(b)
	return string(b)
}

// changed returns b with that bit changed.
func changed(b string, bit int) string {
	c := []byte(b)
	c[bit/8] ^= 1 << (bit % 8)
	return string(c)
}

// kinds returns a real and an ideal engine, by their names.
func kinds() map[string]*engine.Engine {
	return map[string]*engine.Engine{"real": engine.Real(), "ideal": engine.Ideal()}
}

// signed returns the tag of what may be signed.
func signed(t *testing.T, g *engine.Engine, variant int, key, text string) string {
	t.Helper()
	tag, e := g.Sign(variant, key, text)
	if e != api.OK || len(tag) != sizes[variant] {
		t.Fatalf("variant %d, key %x, %d bytes: tag %x, error %d", variant, key, len(text), tag, e)
	}
	return tag
}

// sealed returns the sealed text and the tag of what may be sealed.
func sealed(t *testing.T, g *engine.Engine, variant int, key, nonce, with, text string) (string, string) {
	t.Helper()
	s, tag, e := g.Seal(variant, key, nonce, with, text)
	if e != api.OK || len(s) != len(text) || len(tag) != sizes[variant] {
		t.Fatalf("variant %d, key %x, nonce %x, %d bytes: %d bytes, tag %x, error %d",
			variant, key, nonce, len(text), len(s), tag, e)
	}
	return s, tag
}

// holds fails unless Holds returns want.
func holds(t *testing.T, g *engine.Engine, variant int, key, text, tag string, want api.Errno) {
	t.Helper()
	if e := g.Holds(variant, key, text, tag); e != want {
		t.Fatalf("variant %d, key %.80x, text %.80x, tag %x: error %d, want %d", variant, key, text, tag, e, want)
	}
}

// opens fails unless Open returns the text.
func opens(t *testing.T, g *engine.Engine, variant int, key, nonce, with, s, tag, text string) {
	t.Helper()
	if x, e := g.Open(variant, key, nonce, with, s, tag); x != text || e != api.OK {
		t.Fatalf("variant %d, key %x, nonce %x, with %.80x, sealed %.80x, tag %x: %.80x, error %d, want %.80x",
			variant, key, nonce, with, s, tag, x, e, text)
	}
}

// refuses fails unless Open returns ErrSec and no text.
func refuses(t *testing.T, g *engine.Engine, variant int, key, nonce, with, s, tag string) {
	t.Helper()
	if x, e := g.Open(variant, key, nonce, with, s, tag); x != "" || e != api.ErrSec {
		t.Fatalf("variant %d, key %x, nonce %x, with %.80x, sealed %.80x, tag %x: %.80x, error %d, want ErrSec",
			variant, key, nonce, with, s, tag, x, e)
	}
}

// P9.1: the size of each variant, and 0 for all others.
func TestSize(t *testing.T) {
	for _, v := range some() {
		if got := engine.Size(v); got != sizes[v] {
			t.Errorf("variant %d: %d, want %d", v, got, sizes[v])
		}
	}
}

// P9.1: engines have no entries at first; each call returns another one (R7).
func TestNewEngines(t *testing.T) {
	for range 3 {
		for name, g := range kinds() {
			if g.Len() != 0 {
				t.Errorf("%s: %d entries", name, g.Len())
			}
			signed(t, g, 5, "key", "text")
			sealed(t, g, 1, strings.Repeat("k", 16), "noncenonce", "with", "text")
		}
	}
}

// P9.1: Len counts what was signed and sealed, in an ideal engine alone.
func TestLen(t *testing.T) {
	key := strings.Repeat("k", 16)
	for name, g := range kinds() {
		for n := 1; n <= 40; n++ {
			if n%3 == 0 {
				s, tag := sealed(t, g, 1, key, "noncenonce", "", "text")
				opens(t, g, 1, key, "noncenonce", "", s, tag, "text")
				refuses(t, g, 1, key, "noncenonce", "", s, "")
			} else {
				tag := signed(t, g, 5, key, "text")
				holds(t, g, 5, key, "text", tag, api.OK)
				holds(t, g, 5, key, "text", "", api.ErrSec)
			}
			want := n
			if name == "real" {
				want = 0
			}
			if g.Len() != want || g.Len() != want {
				t.Fatalf("%s: %d entries, want %d", name, g.Len(), want)
			}
		}
	}
}

// P9.1: which variants sign, and with keys of which lengths. What is refused leaves no entry (R4).
func TestMaySign(t *testing.T) {
	tag := strings.Repeat("t", 64)
	for name, g := range kinds() {
		for _, v := range some() {
			for size := range 140 {
				key, before := strings.Repeat("k", size), g.Len()
				if slices.Contains(signers, v) && size >= 1 && size <= 64 {
					signed(t, g, v, key, "text")
					holds(t, g, v, key, "text", tag, api.ErrSec)
					continue
				}
				got, e := g.Sign(v, key, "text")
				if f := g.Holds(v, key, "text", tag); got != "" || e != api.ErrArg || f != api.ErrArg || g.Len() != before {
					t.Fatalf("%s, variant %d, key of %d bytes: %x, errors %d, %d, want ErrArg; %d entries, before %d",
						name, v, size, got, e, f, g.Len(), before)
				}
			}
		}
	}
}

// P9.1: which variants seal, with keys and nonces of which lengths. What is refused leaves no entry (R4).
func TestMaySeal(t *testing.T) {
	tag := strings.Repeat("t", 16)
	for name, g := range kinds() {
		for _, v := range some() {
			for size := range 70 {
				for length := range 40 {
					key, nonce, before := strings.Repeat("k", size), strings.Repeat("n", length), g.Len()
					if slices.Contains(sealers, v) && size == keySizes[v] && length >= 8 && length <= 16 {
						sealed(t, g, v, key, nonce, "with", "text")
						refuses(t, g, v, key, nonce, "with", "text", tag)
						continue
					}
					s, got, e := g.Seal(v, key, nonce, "with", "text")
					x, f := g.Open(v, key, nonce, "with", "text", tag)
					if s+got+x != "" || e != api.ErrArg || f != api.ErrArg || g.Len() != before {
						t.Fatalf("%s, variant %d, key of %d bytes, nonce of %d: %x, %x, %x, errors %d, %d, want ErrArg; "+
							"%d entries, before %d", name, v, size, length, s, got, x, e, f, g.Len(), before)
					}
				}
			}
		}
	}
}

// P9.1: keys and nonces of far too many bytes, also as many as are permitted in fewer bits.
func TestLongKeysAndNonces(t *testing.T) {
	for name, g := range kinds() {
		for _, size := range []int{256 + 12, 256 + 16, 256 + 32, 1<<16 + 12, 1<<16 + 16, 1<<16 + 32} {
			long := strings.Repeat("k", size)
			for _, v := range signers {
				if tag, e := g.Sign(v, long, ""); tag != "" || e != api.ErrArg || g.Holds(v, long, "", "") != api.ErrArg {
					t.Errorf("%s, variant %d, key of %d bytes: %x, error %d", name, v, size, tag, e)
				}
			}
			for _, v := range sealers {
				key := long[:keySizes[v]]
				_, _, e := g.Seal(v, long, "noncenonce", "", "")
				_, f := g.Open(v, long, "noncenonce", "", "", "")
				_, _, h := g.Seal(v, key, long, "", "")
				_, i := g.Open(v, key, long, "", "", "")
				if e != api.ErrArg || f != api.ErrArg || h != api.ErrArg || i != api.ErrArg {
					t.Errorf("%s, variant %d, %d bytes: errors %d, %d, %d, %d", name, v, size, e, f, h, i)
				}
			}
		}
	}
}

// P9.1: the lengths are counted in bytes, not in runes.
func TestRunes(t *testing.T) {
	for name, g := range kinds() {
		key, nonce := strings.Repeat("é", 8), strings.Repeat("é", 6)
		holds(t, g, 5, key, "é", signed(t, g, 5, key, "é"), api.OK)
		s, tag := sealed(t, g, 1, key, nonce, "é", "\u20ac")
		opens(t, g, 1, key, nonce, "é", s, tag, "\u20ac")
		_, e := g.Sign(5, strings.Repeat("é", 33), "")
		_, _, f := g.Seal(1, strings.Repeat("é", 16), nonce, "", "")
		_, _, h := g.Seal(1, key, strings.Repeat("é", 10), "", "")
		if e != api.ErrArg || f != api.ErrArg || h != api.ErrArg {
			t.Errorf("%s: errors %d, %d, %d, want ErrArg", name, e, f, h)
		}
	}
}

// P9.4: what was signed holds, and what was sealed can be opened, again and again and in any order, for all variants
// and permitted lengths.
func TestSignedHoldsAndSealedOpens(t *testing.T) {
	for _, g := range kinds() {
		r := rand.New(rand.NewSource(1))
		var later []func()
		for size := 1; size <= 64; size++ {
			for _, v := range signers {
				key, text := random(r, size), random(r, r.Intn(300))
				tag := signed(t, g, v, key, text)
				later = append(later, func() { holds(t, g, v, key, text, tag, api.OK) })
			}
		}
		for length := 8; length <= 16; length++ {
			for size := range 40 {
				for _, v := range sealers {
					key, nonce, with, text := random(r, keySizes[v]), random(r, length), random(r, r.Intn(40)), random(r, size)
					s, tag := sealed(t, g, v, key, nonce, with, text)
					later = append(later, func() { opens(t, g, v, key, nonce, with, s, tag, text) })
				}
			}
		}
		for range 2 {
			r.Shuffle(len(later), func(i, j int) { later[i], later[j] = later[j], later[i] })
			for _, check := range later {
				check()
			}
		}
	}
}

// R1: an engine that neither Real nor Ideal made does not panic; it is a real one.
func TestEngineOfNothing(t *testing.T) {
	g, key := new(engine.Engine), strings.Repeat("k", 32)
	tag := signed(t, g, 5, key, "text")
	holds(t, engine.Real(), 5, key, "text", tag, api.OK)
	holds(t, g, 5, key, "next", tag, api.ErrSec)
	s, tag := sealed(t, g, 3, key, "noncenonce", "with", "text")
	opens(t, engine.Real(), 3, key, "noncenonce", "with", s, tag, "text")
	refuses(t, g, 3, key, "noncenonce", "", s, tag)
	if _, e := g.Sign(1, key, ""); e != api.ErrArg || g.Len() != 0 {
		t.Errorf("error %d, %d entries", e, g.Len())
	}
}
