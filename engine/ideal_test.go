package engine_test

import (
	"math/rand"
	"strings"
	"testing"

	"dromond/api"
	"dromond/engine"
)

// freshBytes returns that many fresh bytes for entry n: its number's bytes, written one by one, until there are enough.
func freshBytes(n, size int) string {
	number := string([]byte{0, 0, 0, 0, byte(n / (1 << 24)), byte(n / (1 << 16) % 256), byte(n / 256 % 256), byte(n % 256)})
	s := ""
	for len(s) < size {
		s += number
	}
	return s[:size]
}

// made is an entry, with everything that was returned for it.
type made struct {
	variant                            int
	key, nonce, with, text, fresh, tag string
}

// model is an ideal engine that searches its entries one by one.
type model []made

// sign adds an entry and returns its tag.
func (m *model) sign(variant int, key, text string) string {
	tag := freshBytes(len(*m)+1, sizes[variant])
	*m = append(*m, made{variant: variant, key: key, text: text, tag: tag})
	return tag
}

// holds searches for an entry that was signed.
func (m model) holds(variant int, key, text, tag string) api.Errno {
	for _, x := range m {
		if x.variant == variant && x.key == key && x.text == text && x.tag == tag {
			return api.OK
		}
	}
	return api.ErrSec
}

// seal adds an entry and returns its fresh text and its tag.
func (m *model) seal(variant int, key, nonce, with, text string) (string, string) {
	n := len(*m) + 1
	x := made{variant, key, nonce, with, text, freshBytes(n, len(text)), freshBytes(n, sizes[variant])}
	*m = append(*m, x)
	return x.fresh, x.tag
}

// open searches for an entry that was sealed.
func (m model) open(variant int, key, nonce, with, text, tag string) (string, api.Errno) {
	for _, x := range m {
		if x.variant == variant && x.key == key && x.nonce == nonce && x.with == with && x.fresh == text && x.tag == tag {
			return x.text, api.OK
		}
	}
	return "", api.ErrSec
}

// P9.3: the first tags and texts, written out: what is signed and what is sealed are numbered together.
func TestIdealFirstEntries(t *testing.T) {
	g, key := engine.Ideal(), strings.Repeat("k", 32)
	if tag := signed(t, g, 5, "k", "a"); tag != strings.Repeat("\x00\x00\x00\x00\x00\x00\x00\x01", 4) {
		t.Errorf("variant 5: %x", tag)
	}
	s, tag := sealed(t, g, 3, key, "noncenonce", "with", "eleven byte")
	if s != "\x00\x00\x00\x00\x00\x00\x00\x02\x00\x00\x00" || tag != strings.Repeat("\x00\x00\x00\x00\x00\x00\x00\x02", 2) {
		t.Errorf("variant 3: %x, %x", s, tag)
	}
	if tag := signed(t, g, 6, "k", "a"); tag != strings.Repeat("\x00\x00\x00\x00\x00\x00\x00\x03", 6) {
		t.Errorf("variant 6: %x", tag)
	}
	s, tag = sealed(t, g, 1, key[:16], "noncenonce", "", "")
	if s != "" || tag != strings.Repeat("\x00\x00\x00\x00\x00\x00\x00\x04", 2) {
		t.Errorf("variant 1: %x, %x", s, tag)
	}
	if tag := signed(t, g, 7, "k", ""); tag != strings.Repeat("\x00\x00\x00\x00\x00\x00\x00\x05", 8) {
		t.Errorf("variant 7: %x", tag)
	}
}

// P9.3: the bytes of many numbers, also beyond those of one and of two bytes; they hold afterwards.
func TestIdealManyEntries(t *testing.T) {
	g := engine.Ideal()
	const most = 1<<16 + 300
	for n := 1; n <= most; n++ {
		v := signers[n%3]
		if got, want := signed(t, g, v, "key", "text"), freshBytes(n, sizes[v]); got != want {
			t.Fatalf("entry %d: %x, want %x", n, got, want)
		}
	}
	for n := range most + 300 {
		for _, v := range signers {
			want := api.ErrSec
			if n >= 1 && n <= most && v == signers[n%3] {
				want = api.OK
			}
			holds(t, g, v, "key", "text", freshBytes(n, sizes[v]), want)
		}
	}
	if g.Len() != most {
		t.Errorf("%d entries, want %d", g.Len(), most)
	}
}

// P9.3: fresh texts of every length, and long ones, have the length of what was sealed.
func TestIdealFreshTexts(t *testing.T) {
	g, r := engine.Ideal(), rand.New(rand.NewSource(6))
	lengths := []int{4000, 1<<16 + 3, 1 << 20}
	for n := range 300 {
		lengths = append(lengths, n)
	}
	for i, length := range lengths {
		v := sealers[i%2]
		key, nonce, text := random(r, keySizes[v]), random(r, 8+i%9), random(r, length)
		s, tag := sealed(t, g, v, key, nonce, "with", text)
		if s != strings.Repeat(freshBytes(i+1, 8), length/8+1)[:length] || tag != freshBytes(i+1, 16) {
			t.Fatalf("entry %d, %d bytes: %.40x, tag %x", i+1, length, s, tag)
		}
		opens(t, g, v, key, nonce, "with", s, tag, text)
	}
}

// P9.3: what was signed twice has two entries, and both tags hold; what was sealed twice is opened by each text with
// its own tag.
func TestIdealTwice(t *testing.T) {
	g, key := engine.Ideal(), strings.Repeat("k", 16)
	a, b := signed(t, g, 5, key, "text"), signed(t, g, 5, key, "text")
	holds(t, g, 5, key, "text", a, api.OK)
	holds(t, g, 5, key, "text", b, api.OK)
	s, tag := sealed(t, g, 1, key, "noncenonce", "with", "long text")
	z, end := sealed(t, g, 1, key, "noncenonce", "with", "long text")
	opens(t, g, 1, key, "noncenonce", "with", s, tag, "long text")
	opens(t, g, 1, key, "noncenonce", "with", z, end, "long text")
	refuses(t, g, 1, key, "noncenonce", "with", s, end)
	refuses(t, g, 1, key, "noncenonce", "with", z, tag)
	if a == b || s == z || tag == end || g.Len() != 4 {
		t.Errorf("%x, %x; %x, %x; %x, %x; %d entries", a, b, s, z, tag, end, g.Len())
	}
}

// P9.3: a tag holds for its own variant, key and text alone, and tags of no entry hold for nothing.
func TestIdealHoldsNothingElse(t *testing.T) {
	for _, v := range signers {
		g, size := engine.Ideal(), sizes[v]
		signed(t, g, v, "before", "before")
		tag := signed(t, g, v, "key", "text")
		signed(t, g, v, "behind", "behind")
		for _, x := range []struct{ key, text string }{
			{"kez", "text"}, {"key", "next"}, {"keyt", "ext"}, {"ke", "ytext"}, {"key", ""}, {"key\x00", "text"},
			{"key", "text\x00"}, {"text", "key"}, {"before", "before"}, {"behind", "text"}, {"key", "behind"},
		} {
			holds(t, g, v, x.key, x.text, tag, api.ErrSec)
		}
		for bit := range 8 * size {
			holds(t, g, v, "key", "text", changed(tag, bit), api.ErrSec)
		}
		for n := range size {
			holds(t, g, v, "key", "text", tag[:n], api.ErrSec)
			holds(t, g, v, "key", "text", tag+tag[:n+1], api.ErrSec)
		}
		for _, other := range signers {
			if other != v {
				holds(t, g, other, "key", "text", tag, api.ErrSec)
				holds(t, g, other, "key", "text", freshBytes(2, sizes[other]), api.ErrSec)
				holds(t, g, v, "key", "text", freshBytes(2, sizes[other]), api.ErrSec)
			}
		}
		for _, b := range []string{"\x00", "\xff", "\x80", "\x7f"} {
			holds(t, g, v, "key", "text", strings.Repeat(b, size), api.ErrSec)
			holds(t, g, v, "", "", strings.Repeat(b, size), api.ErrArg)
		}
		holds(t, g, v, "key", "text", code(v, "key", "text"), api.ErrSec)
		holds(t, g, v, "key", "text", tag, api.OK)
	}
}

// P9.3: a sealed text is opened with its own variant, key, nonce, associated data and tag alone.
func TestIdealOpensNothingElse(t *testing.T) {
	const nonce = "noncenonce"
	for _, v := range sealers {
		g, key := engine.Ideal(), strings.Repeat("k", keySizes[v])
		sealed(t, g, v, key, nonce, "before", "before it")
		s, tag := sealed(t, g, v, key, nonce, "with", "some text")
		sealed(t, g, v, key, nonce, "behind", "behind it")
		parts := []string{key, nonce, "with", s, tag}
		for i, part := range parts {
			for bit := range 8 * len(part) {
				p := append([]string(nil), parts...)
				p[i] = changed(part, bit)
				refuses(t, g, v, p[0], p[1], p[2], p[3], p[4])
			}
		}
		for _, x := range []struct{ nonce, with, s, tag string }{
			{nonce + "w", "ith", s, tag}, {nonce[:9], nonce[9:] + "with", s, tag}, {nonce, "", s, tag},
			{nonce, "with\x00", s, tag}, {nonce, "with", "", tag}, {nonce, "with", s[:8], tag},
			{nonce, "with", freshBytes(2, 10), tag}, {nonce, "with", "some text", tag}, {nonce, "before", s, tag},
			{nonce, "with", s, ""}, {nonce, "with", s, tag[:8]}, {nonce, "with", s, tag[:15]}, {nonce, "with", s, tag + "\x00"},
			{nonce, "with", s, freshBytes(2, 32)}, {nonce, "with", s, freshBytes(1, 16)}, {nonce, "with", s, freshBytes(3, 16)},
			{nonce, "with", freshBytes(1, 9), freshBytes(1, 16)}, {nonce, "with", freshBytes(4, 9), freshBytes(4, 16)},
			{nonce, "with", freshBytes(0, 9), freshBytes(0, 16)}, {nonce, "with", strings.Repeat("\xff", 9), strings.Repeat("\xff", 16)},
		} {
			refuses(t, g, v, key, x.nonce, x.with, x.s, x.tag)
		}
		refuses(t, g, 4-v, strings.Repeat("k", keySizes[4-v]), nonce, "with", s, tag)
		opens(t, g, v, key, nonce, "with", s, tag, "some text")
	}
}

// P9.3: the empty text and no associated data are a text and data as any other.
func TestIdealEmpty(t *testing.T) {
	g, key := engine.Ideal(), strings.Repeat("k", 16)
	refuses(t, g, 1, key, "noncenonce", "", "", "")
	refuses(t, g, 1, key, "noncenonce", "", "", freshBytes(1, 16))
	holds(t, g, 5, key, "", "", api.ErrSec)
	holds(t, g, 5, key, "", freshBytes(1, 32), api.ErrSec)
	_, tag := sealed(t, g, 1, key, "noncenonce", "", "")
	opens(t, g, 1, key, "noncenonce", "", "", tag, "")
	refuses(t, g, 1, key, "noncenonce", "", "\x00", tag)
	holds(t, g, 5, key, "", signed(t, g, 5, key, ""), api.OK)
	holds(t, g, 5, key, "", "", api.ErrSec)
}

// P9.3: what was signed is not opened, and what was sealed does not hold, whatever tag is given.
func TestIdealSignedIsNotSealed(t *testing.T) {
	g, key := engine.Ideal(), strings.Repeat("k", 16)
	signed(t, g, 5, key, "text")
	sealed(t, g, 1, key, "noncenonce", "", "text")
	for n := range 4 {
		for _, size := range []int{16, 32, 48, 64} {
			tag := freshBytes(n, size)
			for _, text := range []string{"text", "", freshBytes(n, 4)} {
				if n != 1 || size != 32 || text != "text" {
					holds(t, g, 5, key, text, tag, api.ErrSec)
				}
				if n != 2 || size != 16 || text != freshBytes(2, 4) {
					refuses(t, g, 1, key, "noncenonce", "", text, tag)
				}
			}
		}
	}
}

// P9.3 and P9.4: many calls with few keys, nonces and texts, so that most of them hit an entry nearly or altogether,
// return what the model returns.
func TestIdealModel(t *testing.T) {
	r := rand.New(rand.NewSource(7))
	for range 60 {
		g, m := engine.Ideal(), model{}
		pick := func(l ...string) string { return l[r.Intn(len(l))] }
		for range 150 {
			v, size := signers[r.Intn(3)], []int{16, 32, 48, 64}[r.Intn(4)]
			key, text := pick("a", "b"), pick("", "x", "y", "xy")
			w := sealers[r.Intn(2)]
			long, nonce, with := strings.Repeat(key, keySizes[w]), strings.Repeat("n", 8+r.Intn(2)), pick("", "n")
			n := r.Intn(len(m) + 2)
			tag, s := freshBytes(n, size), freshBytes(n, r.Intn(3))
			switch r.Intn(6) {
			case 0:
				if got, want := signed(t, g, v, key, text), m.sign(v, key, text); got != want {
					t.Fatalf("%x, want %x", got, want)
				}
			case 1:
				got, end := sealed(t, g, w, long, nonce, with, text)
				if x, y := m.seal(w, long, nonce, with, text); got != x || end != y {
					t.Fatalf("%x, %x, want %x, %x", got, end, x, y)
				}
			case 2, 3:
				holds(t, g, v, key, text, tag, m.holds(v, key, text, tag))
			default:
				x, e := g.Open(w, long, nonce, with, s, tag[:16])
				if y, f := m.open(w, long, nonce, with, s, tag[:16]); x != y || e != f {
					t.Fatalf("%q, error %d, want %q, error %d", x, e, y, f)
				}
			}
			if g.Len() != len(m) {
				t.Fatalf("%d entries, want %d", g.Len(), len(m))
			}
		}
	}
}

// P9.4: two engines that are given texts, keys and nonces of the same lengths return the same.
func TestIdealTellsLengthsOnly(t *testing.T) {
	r, g, h := rand.New(rand.NewSource(8)), engine.Ideal(), engine.Ideal()
	for range 1000 {
		size, length := r.Intn(200), r.Intn(20)
		if v := signers[r.Intn(3)]; r.Intn(2) == 0 {
			a, b := signed(t, g, v, random(r, 1+r.Intn(64)), random(r, size)), signed(t, h, v, "key", random(r, size))
			if a != b {
				t.Fatalf("%x, %x", a, b)
			}
			continue
		}
		v := sealers[r.Intn(2)]
		s, a := sealed(t, g, v, random(r, keySizes[v]), random(r, 12), random(r, length), random(r, size))
		z, b := sealed(t, h, v, random(r, keySizes[v]), random(r, 12), random(r, length), random(r, size))
		if s != z || a != b {
			t.Fatalf("%x, %x; tags %x, %x", s, z, a, b)
		}
	}
}

// R7: engines are independent: what one has signed and sealed is nothing to another one.
func TestIdealEnginesAreIndependent(t *testing.T) {
	g, h, key := engine.Ideal(), engine.Ideal(), strings.Repeat("k", 16)
	tag := signed(t, g, 5, key, "text")
	s, end := sealed(t, g, 1, key, "noncenonce", "with", "text")
	for _, other := range []*engine.Engine{h, engine.Ideal(), engine.Real()} {
		holds(t, other, 5, key, "text", tag, api.ErrSec)
		refuses(t, other, 1, key, "noncenonce", "with", s, end)
		if other.Len() != 0 {
			t.Errorf("%d entries", other.Len())
		}
	}
	signed(t, h, 5, key, "other")
	holds(t, g, 5, key, "text", tag, api.OK)
	holds(t, h, 5, key, "text", tag, api.ErrSec)
	holds(t, g, 5, key, "other", tag, api.ErrSec)
	opens(t, g, 1, key, "noncenonce", "with", s, end, "text")
}

// R4: a call that is refused leaves no entry and takes no number.
func TestIdealRefusalTakesNoNumber(t *testing.T) {
	g, key := engine.Ideal(), strings.Repeat("k", 16)
	g.Sign(4, "k", "text")
	g.Sign(5, "", "text")
	g.Sign(5, strings.Repeat("k", 65), "text")
	g.Seal(2, key, "noncenonce", "", "text")
	g.Seal(1, key+key, "noncenonce", "", "text")
	g.Seal(3, key, "noncenonce", "", "text")
	g.Seal(1, key, "nonce", "", "text")
	g.Seal(1, key, key+"k", "", "text")
	g.Holds(5, "k", "text", freshBytes(1, 32))
	g.Open(1, key, "noncenonce", "", freshBytes(1, 4), freshBytes(1, 16))
	if g.Len() != 0 {
		t.Errorf("%d entries", g.Len())
	}
	if tag := signed(t, g, 5, "k", "text"); tag != freshBytes(1, 32) {
		t.Errorf("the first tag: %x", tag)
	}
}
