package primary_test

import (
	"testing"

	"dromond/api"
	"dromond/item"
	"dromond/primary"
)

// readBytes returns the primary block whose bytes b is, or the first error of parsing and of Of.
func readBytes(b string) (api.Primary, api.Errno) {
	x, _, e := item.Parse(b)
	if e != api.OK {
		return api.Primary{}, e
	}
	return primary.Of(x)
}

// P11.2: what is built is read back as it was.
func TestReadBack(t *testing.T) {
	for _, p := range valid() {
		b, e1 := primary.Build(p)
		if q, e2 := readBytes(b); q != p || e1 != api.OK || e2 != api.OK {
			t.Fatalf("%#v: %#v, errors %d %d", p, q, e1, e2)
		}
	}
}

// P11.2: if there is a checksum, a change of one bit of the bytes is detected.
func TestChangedBit(t *testing.T) {
	changed := 0
	for i, p := range valid() {
		if i%4 > 0 {
			continue // One in four is enough.
		}
		p.CRC = 1 + i/4%2
		s, _ := primary.Build(p)
		for bit := range 8 * len(s) {
			b := []byte(s)
			b[bit/8] ^= 1 << (bit % 8)
			if q, e := readBytes(string(b)); e == api.OK || q != (api.Primary{}) {
				t.Fatalf("%x, bit %d: %#v, error %d", s, bit, q, e)
			}
			changed++
		}
	}
	if changed < 100000 {
		t.Errorf("only %d bits were changed", changed)
	}
}

// P11.1, R1: all functions return for the zero value.
func TestZero(t *testing.T) {
	var p api.Primary
	b, e1 := primary.Build(p)
	s, e2 := primary.Plain(p)
	x, e3 := primary.Item(p)
	if b != "" || s != "" || told(x) != told(item.Item{}) || e1 != api.ErrArg || e2 != api.ErrArg || e3 != api.ErrArg {
		t.Errorf("%q %q %#v, errors %d %d %d", b, s, x, e1, e2, e3)
	}
	if primary.Name(p) != (primary.ID{}) || primary.Whole(p) != p {
		t.Errorf("%#v %#v", primary.Name(p), primary.Whole(p))
	}
}
