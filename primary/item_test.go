package primary_test

import (
	"encoding/binary"
	"fmt"
	"hash/crc32"
	"testing"

	"dromond/api"
	"dromond/item"
	"dromond/primary"
)

// head returns the head of that type with the argument n, in the fewest bytes.
func head(major byte, n uint64) string {
	b := binary.BigEndian.AppendUint64(nil, n)
	major <<= 5
	switch {
	case n < 24:
		return string([]byte{major | byte(n)})
	case n < 1<<8:
		return string([]byte{major | 24}) + string(b[7:])
	case n < 1<<16:
		return string([]byte{major | 25}) + string(b[6:])
	case n < 1<<32:
		return string([]byte{major | 26}) + string(b[4:])
	}
	return string([]byte{major | 27}) + string(b)
}

// bytesOfName returns the bytes of the item of e.
func bytesOfName(e api.EID) string {
	switch {
	case e.Scheme == 2:
		return "\x82\x02\x82" + head(0, e.Node) + head(0, e.Service)
	case e.Name == "none":
		return "\x82\x01\x00"
	}
	return "\x82\x01" + head(3, uint64(len(e.Name))) + e.Name
}

// x25 returns the checksum CRC-16/X-25 of b.
func x25(b string) uint16 {
	r := uint16(0xffff)
	for i := range 8 * len(b) {
		bit := uint16(b[i/8]) >> (i % 8) & 1
		if r&1 != bit {
			r = r>>1 ^ 0x8408
		} else {
			r >>= 1
		}
	}
	return ^r
}

// summed returns b with its checksum of that kind: b ends before the byte string of the checksum.
func summed(b string, kind int) string {
	switch kind {
	case 1:
		return b + "\x42" + string(binary.BigEndian.AppendUint16(nil, x25(b+"\x42\x00\x00")))
	case 2:
		zero := b + "\x44\x00\x00\x00\x00"
		sum := crc32.Checksum([]byte(zero), crc32.MakeTable(crc32.Castagnoli))
		return b + "\x44" + string(binary.BigEndian.AppendUint32(nil, sum))
	}
	return b
}

// bytesOf returns the bytes of the item of p, by a model of its own.
func bytesOf(p api.Primary) string {
	n := uint64(8)
	fields := head(0, p.Flags) + head(0, uint64(p.CRC)) + bytesOfName(p.Dst) + bytesOfName(p.Src) + bytesOfName(p.Rpt) +
		"\x82" + head(0, p.Time) + head(0, p.Seq) + head(0, p.Life)
	if p.Flags&frag != 0 {
		n, fields = n+2, fields+head(0, p.Off)+head(0, p.Total)
	}
	if p.CRC == 1 || p.CRC == 2 {
		n++
	}
	return summed(head(4, n)+"\x07"+fields, p.CRC)
}

// parsed returns the item whose bytes b is.
func parsed(t *testing.T, b string) item.Item {
	t.Helper()
	x, at, e := item.Parse(b)
	if e != api.OK {
		t.Fatalf("%x: error %d at %d", b, e, at)
	}
	return x
}

// P11.1: Item, Build and Plain, for all kinds of valid primary blocks.
func TestItem(t *testing.T) {
	for _, p := range valid() {
		want := bytesOf(p)
		x, e := primary.Item(p)
		if e != api.OK || !item.Same(x, parsed(t, want)) {
			t.Fatalf("%#v: %#v, error %d, want %x", p, x, e, want)
		}
		if b, e := primary.Build(p); b != want || e != api.OK {
			t.Fatalf("%#v: %x, error %d, want %x", p, b, e, want)
		}
		without := p
		without.CRC = 0
		if b, e := primary.Plain(p); b != bytesOf(without) || e != api.OK {
			t.Fatalf("%#v: %x, error %d, want %x", p, b, e, bytesOf(without))
		}
	}
}

// P11.1: Item, Build and Plain return Right's error, and nothing else, for what is not valid.
func TestItemNotValid(t *testing.T) {
	for _, p := range many() {
		want := checked(p)
		x, e1 := primary.Item(p)
		b, e2 := primary.Build(p)
		if e1 != want || e2 != want {
			t.Fatalf("%#v: errors %d %d, want %d", p, e1, e2, want)
		}
		if want != api.OK && (x.Kind != 0 || x.N != 0 || x.S != "" || len(x.L) != 0 || x.Open || b != "") {
			t.Fatalf("%#v: %#v %q", p, x, b)
		}
		// Plain does not look at what CRC was.
		without := p
		without.CRC = 0
		want = checked(without)
		if s, e := primary.Plain(p); e != want || (want != api.OK && s != "") {
			t.Fatalf("%#v: %q, error %d, want %d", p, s, e, want)
		}
	}
}

// P11.1: the bytes of items; the first ones are the chapter's example.
func TestItemBytes(t *testing.T) {
	const rest = "\x82\x02\x82\x02\x00\x82\x02\x82\x01\x00\x82\x01\x00\x82\x05\x00\x18\x64"
	for _, v := range []struct {
		turn func(p *api.Primary)
		want string
	}{
		{func(p *api.Primary) {}, "\x88\x07\x00\x00" + rest},
		{func(p *api.Primary) { p.CRC = 1 }, "\x89\x07\x00\x01" + rest + "\x42\x82\xa7"},
		{func(p *api.Primary) { p.CRC = 2 }, "\x89\x07\x00\x02" + rest + "\x44\x7b\x1f\x19\x79"},
		{func(p *api.Primary) { p.Flags, p.Off, p.Total = frag, 3, 24 }, "\x8a\x07\x01\x00" + rest + "\x03\x18\x18"},
		{func(p *api.Primary) { p.Flags = 0x44000 }, "\x88\x07\x1a\x00\x04\x40\x00\x00" + rest},
	} {
		p := plain()
		v.turn(&p)
		if b, e := primary.Build(p); b != v.want || e != api.OK {
			t.Errorf("%#v: %x, error %d, want %x", p, b, e, v.want)
		}
	}
}

// spoil replaces all elements of x on all levels.
func spoil(x item.Item) {
	l := x.L[:cap(x.L)]
	for i := range l {
		spoil(l[i])
		l[i] = item.Str("another")
	}
}

// P11.1, R5: each item is new memory, on every level.
func TestItemIsNewMemory(t *testing.T) {
	for _, p := range []api.Primary{plain(), piece()} {
		x, _ := primary.Item(p)
		spoil(x)
		if y, e := primary.Item(p); e != api.OK || !item.Same(y, parsed(t, bytesOf(p))) {
			t.Errorf("%#v: %s, error %d", p, told(y), e)
		}
	}
}

// told returns all of x as text, for comparing.
func told(x item.Item) string {
	return fmt.Sprintf("%#v", x)
}
