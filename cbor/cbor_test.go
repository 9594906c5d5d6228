package cbor_test

import (
	"math"
	"strings"
	"testing"

	"dromond/cbor"
)

// edges are numbers at the ends of each size of head, with the bytes that follow the first one.
var edges = []struct {
	n    uint64
	low  byte
	tail string
}{
	{0, 0, ""},
	{1, 1, ""},
	{23, 23, ""},
	{24, 24, "\x18"},
	{127, 24, "\x7f"},
	{255, 24, "\xff"},
	{256, 25, "\x01\x00"},
	{500, 25, "\x01\xf4"},
	{65535, 25, "\xff\xff"},
	{65536, 26, "\x00\x01\x00\x00"},
	{1000000, 26, "\x00\x0f\x42\x40"},
	{1<<32 - 1, 26, "\xff\xff\xff\xff"},
	{1 << 32, 27, "\x00\x00\x00\x01\x00\x00\x00\x00"},
	{0x0123456789abcdef, 27, "\x01\x23\x45\x67\x89\xab\xcd\xef"},
	{1 << 63, 27, "\x80\x00\x00\x00\x00\x00\x00\x00"},
	{math.MaxUint64, 27, "\xff\xff\xff\xff\xff\xff\xff\xff"},
}

// bytesOf returns the bytes of the head of edges[i] with that type.
func bytesOf(major, i int) string {
	return string([]byte{byte(major)<<5 | edges[i].low}) + edges[i].tail
}

// P1.1: Head, for every type and every size.
func TestHead(t *testing.T) {
	for major := 0; major <= 7; major++ {
		for i, x := range edges {
			if got, want := cbor.Head(major, x.n), bytesOf(major, i); got != want {
				t.Errorf("Head(%d, %d) = %x, want %x", major, x.n, got, want)
			}
		}
	}
}

// P1.1: the chapter's example.
func TestHeadExample(t *testing.T) {
	if got := cbor.Head(0, 500); got != "\x19\x01\xf4" {
		t.Errorf("Head(0, 500) = %x", got)
	}
}

// P1.1: a type below 0 or above 7 counts as 0.
func TestHeadOfNoType(t *testing.T) {
	for _, major := range []int{math.MinInt, -256, -8, -1, 8, 9, 15, 256, 258, math.MaxInt} {
		for i, x := range edges {
			if got, want := cbor.Head(major, x.n), bytesOf(0, i); got != want {
				t.Errorf("Head(%d, %d) = %x, want %x", major, x.n, got, want)
			}
		}
	}
}

// P1.1: Open, for the types that have an open head and for all others.
func TestOpen(t *testing.T) {
	want := map[int]string{2: "\x5f", 3: "\x7f", 4: "\x9f", 5: "\xbf", 7: "\xff"}
	for _, major := range []int{math.MinInt, -256, -4, -1, 0, 1, 2, 3, 4, 5, 6, 7, 8, 10, 12, 260, math.MaxInt} {
		if got := cbor.Open(major); got != want[major] {
			t.Errorf("Open(%d) = %x, want %x", major, got, want[major])
		}
	}
}

// P1.1: Bytes and Text, for lengths at the ends of each size of head.
func TestStrings(t *testing.T) {
	for _, x := range []struct {
		size        int
		bytes, text string
	}{
		{0, "\x40", "\x60"},
		{1, "\x41", "\x61"},
		{23, "\x57", "\x77"},
		{24, "\x58\x18", "\x78\x18"},
		{255, "\x58\xff", "\x78\xff"},
		{256, "\x59\x01\x00", "\x79\x01\x00"},
		{65535, "\x59\xff\xff", "\x79\xff\xff"},
		{65536, "\x5a\x00\x01\x00\x00", "\x7a\x00\x01\x00\x00"},
	} {
		s := strings.Repeat("s", x.size)
		if got := cbor.Bytes(s); got != x.bytes+s {
			t.Errorf("Bytes of %d bytes begins with %.10x", x.size, got)
		}
		if got := cbor.Text(s); got != x.text+s {
			t.Errorf("Text of %d bytes begins with %.10x", x.size, got)
		}
	}
}

// P1.1: the length is in bytes, and the bytes stay as they are, UTF-8 or not.
func TestStringsOfAnyBytes(t *testing.T) {
	for _, s := range []string{"\x00", "\xff\xfe", "é", "\xe2\x82"} {
		head := byte(len(s))
		if got := cbor.Bytes(s); got != string([]byte{0x40 | head})+s {
			t.Errorf("Bytes(%x) = %x", s, got)
		}
		if got := cbor.Text(s); got != string([]byte{0x60 | head})+s {
			t.Errorf("Text(%x) = %x", s, got)
		}
	}
}
