package item_test

import (
	"math/rand"
	"strings"
	"testing"

	"dromond/api"
	"dromond/item"
)

// random returns some valid item with at most that many levels.
func random(r *rand.Rand, levels int) item.Item {
	kinds := 6
	if levels == 1 {
		kinds = 3
	}
	switch r.Intn(kinds) {
	case 0:
		return item.Num(r.Uint64() >> r.Intn(64))
	case 1:
		return item.Str(strings.Repeat("b", r.Intn(300)))
	case 2:
		return txt(strings.Repeat("t", r.Intn(300)))
	}
	l := make([]item.Item, r.Intn(4))
	for i := range l {
		l[i] = random(r, levels-1)
	}
	return item.Item{Kind: 4, L: l, Open: r.Intn(2) == 0}
}

// P2.3: what is built is parsed back.
func TestBuiltIsParsedBack(t *testing.T) {
	r := rand.New(rand.NewSource(2))
	for range 20000 {
		x := random(r, api.MaxDeep)
		b, e := item.Build(x)
		if e != api.OK {
			t.Fatalf("%+v: %d", x, e)
		}
		if y, at, e := item.Parse(b); e != api.OK || at != -1 || !item.Same(x, y) {
			t.Fatalf("%x: %d %d", b, at, e)
		}
	}
}

// check fails if b is parsed as an item that is built in other bytes, and reports whether b is parsed.
func check(t *testing.T, b string) bool {
	x, at, e := item.Parse(b)
	if (e == api.OK) != (at == -1) || at > len(b) {
		t.Fatalf("%x: %d %d", b, at, e)
	}
	if e != api.OK {
		return false
	}
	if got, e := item.Build(x); got != b || e != api.OK {
		t.Fatalf("%x is parsed, %x is built", b, got)
	}
	return true
}

// P2.3: each item has one encoding, among all texts of at most three bytes.
func TestOneEncoding(t *testing.T) {
	for i := range 1 << 24 {
		b := string([]byte{byte(i >> 16), byte(i >> 8), byte(i)})
		check(t, b)
		if i < 1<<16 {
			check(t, b[1:])
		}
	}
}

// P2.3: each item has one encoding, among texts that differ from one in some byte.
func TestOneEncodingOfChanged(t *testing.T) {
	r := rand.New(rand.NewSource(3))
	parsed := 0
	for range 30000 {
		s, _ := item.Build(random(r, api.MaxDeep))
		b := []byte(s)
		b[r.Intn(len(b))] = byte(r.Intn(256))
		if check(t, string(b)) {
			parsed++
		}
	}
	if parsed < 1000 {
		t.Errorf("only %d of them are items", parsed)
	}
}

// P2.3: a number, and a length, that is spelt in more bytes than it needs is refused at its head.
func TestOtherEncodings(t *testing.T) {
	for _, v := range []struct{ b, want string }{
		{"\x18\x05", "\x05"},
		{"\x19\x00\x18", "\x18\x18"},
		{"\x1a\x00\x00\x01\x00", "\x19\x01\x00"},
		{"\x1b\x00\x00\x00\x00\x00\x01\x00\x00", "\x1a\x00\x01\x00\x00"},
		{"\x58\x01a", "\x41a"},
		{"\x79\x00\x01a", "\x61a"},
		{"\x98\x01\x00", "\x81\x00"},
		{"\x98\x00", "\x80"},
	} {
		if _, at, e := item.Parse(v.b); at != 0 || e != api.ErrForm {
			t.Errorf("%x: %d %d", v.b, at, e)
		}
		if _, at, e := item.Parse("\x82\x00" + v.b); at != 2 || e != api.ErrForm {
			t.Errorf("%x inside: %d %d", v.b, at, e)
		}
		if !check(t, v.want) {
			t.Errorf("%x is refused", v.want)
		}
	}
}
