// Package cbor is layer 1: the heads and strings of CBOR, see shared/doc/01-cbor.md.
package cbor

// The major types that this layer treats by themselves.
const (
	majorUint  = 0
	majorBytes = 2
	majorText  = 3
	majorArray = 4
	majorMap   = 5
	majorBreak = 7
)

// The lower five bits of a first byte: below in1 they are the number itself, from in1 to in8 they tell in how
// many bytes the number follows.
const (
	in1      = 24
	in2      = 25
	in4      = 26
	in8      = 27
	openHead = 31
)

// The smallest number that needs each size; a smaller one has a shorter head.
const (
	least1 = 24
	least2 = 1 << 8
	least4 = 1 << 16
	least8 = 1 << 32
)

// Head returns the bytes of the head of that type with the number n.
func Head(major int, n uint64) string {
	switch {
	case n < least1:
		return spell(major, int(n), n, 0)
	case n < least2:
		return spell(major, in1, n, 1)
	case n < least4:
		return spell(major, in2, n, 2)
	case n < least8:
		return spell(major, in4, n, 4)
	}
	return spell(major, in8, n, 8)
}

// Open returns the open head of that type, or "" if it has none.
func Open(major int) string {
	if !mayOpen(major) {
		return ""
	}
	return spell(major, openHead, 0, 0)
}

// Bytes returns s as a byte string.
func Bytes(s string) string {
	return Head(majorBytes, uint64(len(s))) + s
}

// Text returns s as a text string. Whether s is UTF-8 is not this layer's concern.
func Text(s string) string {
	return Head(majorText, uint64(len(s))) + s
}

// mayOpen reports whether the type has an open head.
func mayOpen(major int) bool {
	return major >= majorBytes && major <= majorMap || major == majorBreak
}

// spell returns a first byte, followed by the lowest size bytes of n, big-endian.
func spell(major, low int, n uint64, size int) string {
	if major < 0 || major > 7 {
		major = majorUint
	}
	b := []byte{byte(major*32 + low)}
	for i := range size {
		b = append(b, byte(n>>(8*(size-1-i))))
	}
	return string(b)
}
