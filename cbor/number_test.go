package cbor_test

import (
	"testing"

	"dromond/api"
	"dromond/cbor"
)

// numbers returns each power of two with its neighbours, and everything up to 70000.
func numbers() []uint64 {
	var l []uint64
	for n := range uint64(70000) {
		l = append(l, n)
	}
	for i := range 64 {
		p := uint64(1) << i
		l = append(l, p-1, p, p+1, ^p)
	}
	return l
}

// P1.3: a number that is written is read back, with every type.
func TestNumberIsReadBack(t *testing.T) {
	for _, n := range numbers() {
		for major := range 8 {
			r := cbor.NewReader(cbor.Head(major, n))
			if m, got, open := r.Head(); m != major || got != n || open || !r.Done() {
				t.Fatalf("%d %d: read back as %d %d %t", major, n, m, got, open)
			}
		}
		r := cbor.NewReader(cbor.Head(0, n))
		if got := r.Uint(); got != n || !r.Done() {
			t.Fatalf("%d: read back as %d", n, got)
		}
	}
}

// spelt returns n behind a first byte that tells its size, whether n needs that size or not.
func spelt(major, low, size int, n uint64) string {
	b := []byte{byte(major*32 + low)}
	for i := size - 1; i >= 0; i-- {
		b = append(b, byte(n>>(8*i)))
	}
	return string(b)
}

// P1.3: of all sizes in which a number fits, the reader takes only the one that Head writes.
func TestNumberHasOneEncoding(t *testing.T) {
	for _, n := range numbers() {
		for major := range 8 {
			want, taken := cbor.Head(major, n), 0
			for i, size := range []int{1, 2, 4, 8} {
				if n>>(8*size-1)>>1 != 0 {
					continue
				}
				s := spelt(major, 24+i, size, n)
				r := cbor.NewReader(s)
				r.Head()
				_, e := r.Bad()
				if (e == api.OK) != (s == want) || e != api.OK && e != api.ErrForm {
					t.Fatalf("%x: error %d, want %x alone", s, e, want)
				}
				if e == api.OK {
					taken++
				}
			}
			if len(want) > 1 && taken != 1 {
				t.Fatalf("%d %d: %d encodings", major, n, taken)
			}
		}
	}
}

// again returns the bytes that are written for what was read.
func again(major int, n uint64, open bool) string {
	if open {
		return cbor.Open(major)
	}
	return cbor.Head(major, n)
}

// P1.3: whatever bytes are read as a head are those that are written for it. All texts of three bytes.
func TestHeadIsWrittenBack(t *testing.T) {
	for i := range 1 << 24 {
		s := string([]byte{byte(i >> 16), byte(i >> 8), byte(i)})
		r := cbor.NewReader(s)
		major, n, open := r.Head()
		if _, e := r.Bad(); e != api.OK {
			continue
		}
		if got := again(major, n, open); got != s[:r.At()] {
			t.Fatalf("%x is read, %x is written", s[:r.At()], got)
		}
	}
}

// P1.3: strings are read back as they were written, one after another.
func TestStringsAreReadBack(t *testing.T) {
	for size := range 600 {
		b := make([]byte, size)
		for i := range b {
			b[i] = byte(i * size)
		}
		s := string(b)
		r := cbor.NewReader(cbor.Bytes(s) + cbor.Text(s))
		if got := r.Bytes(size); got != s {
			t.Fatalf("Bytes: %x is read back as %x", s, got)
		}
		if got := r.Text(size); got != s || !r.Done() {
			t.Fatalf("Text: %x is read back as %x", s, got)
		}
	}
}
