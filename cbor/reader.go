package cbor

import (
	"math/bits"

	"dromond/api"
)

// maxItems is the greatest number of items of an array that is not open.
const maxItems = 1000

// Reader reads heads and strings from a text, up to its first failure. The offset at which it failed need not be
// kept: a failing read does not move the reader, and none moves it afterwards.
type Reader struct {
	text string
	at   int
	err  api.Errno
}

// head is what a head says, and in how many bytes.
type head struct {
	major int
	n     uint64
	open  bool
	size  int
}

// NewReader returns a reader at the start of b.
func NewReader(b string) *Reader {
	return &Reader{text: b}
}

// Head reads a head and returns its type, its number, and whether it is open.
func (r *Reader) Head() (int, uint64, bool) {
	h := r.peek()
	r.at += h.size
	return h.major, h.n, h.open
}

// Uint reads a number.
func (r *Reader) Uint() uint64 {
	h := r.peek()
	if h.major != majorUint {
		r.Fail(api.ErrForm)
		return 0
	}
	r.at += h.size
	return h.n
}

// Bytes reads a byte string of at most most bytes.
func (r *Reader) Bytes(most int) string {
	return r.str(majorBytes, most)
}

// Text reads a text string of at most most bytes.
func (r *Reader) Text(most int) string {
	return r.str(majorText, most)
}

// Array reads the head of an array and returns the number of its items, or -1 if it is open.
func (r *Reader) Array() int {
	h := r.peek()
	switch {
	case h.major != majorArray:
		r.Fail(api.ErrForm)
		return 0
	case h.n > maxItems:
		r.Fail(api.ErrLong)
		return 0
	}
	r.at += h.size
	if h.open {
		return -1
	}
	return int(h.n)
}

// Done reports whether everything has been read, without a failure.
func (r *Reader) Done() bool {
	return r.err == api.OK && r.at == len(r.text)
}

// Bad returns where and with what error the reader failed, or -1 and OK.
func (r *Reader) Bad() (int, api.Errno) {
	if r.err == api.OK {
		return -1, api.OK
	}
	return r.at, r.err
}

// At returns the offset.
func (r *Reader) At() int {
	return r.at
}

// Fail makes the reader fail with e where it is. Only the first failure counts.
func (r *Reader) Fail(e api.Errno) {
	if r.err == api.OK {
		r.err = e
	}
}

// peek returns the next head without moving past it, so that a method that refuses the head has nothing to undo.
// A reader that has failed gets the zero head, whose size moves it nowhere.
func (r *Reader) peek() head {
	if r.err != api.OK {
		return head{}
	}
	h, ok := parse(r.text[r.at:])
	if !ok {
		r.Fail(api.ErrForm)
		return head{}
	}
	return h
}

// str reads a string of that type.
func (r *Reader) str(major, most int) string {
	h := r.peek()
	rest := r.text[r.at+h.size:]
	switch {
	case h.major != major || h.open || h.n > uint64(len(rest)):
		r.Fail(api.ErrForm)
		return ""
	case most < 0 || h.n > uint64(most):
		r.Fail(api.ErrLong)
		return ""
	}
	size := int(h.n)
	r.at += h.size + size
	return rest[:size]
}

// parse returns the head at the start of s, and whether there is one.
func parse(s string) (head, bool) {
	if s == "" {
		return head{}, false
	}
	h := head{major: int(s[0] >> 5), size: 1}
	low := s[0] & 31
	if low == openHead {
		h.open = mayOpen(h.major)
		return h, h.open
	}
	n, size, ok := argument(low, s[1:])
	h.n = n
	h.size += size
	return h, ok
}

// argument returns the number of a head with these lower five bits, and how many bytes of rest it takes.
func argument(low byte, rest string) (uint64, int, bool) {
	switch low {
	case in1:
		return number[uint8](rest, least1)
	case in2:
		return number[uint16](rest, least2)
	case in4:
		return number[uint32](rest, least4)
	case in8:
		return number[uint64](rest, least8)
	}
	return uint64(low), 0, low < in1
}

// unsigned are the sizes that the number of a head has.
type unsigned interface {
	uint8 | uint16 | uint32 | uint64
}

// number reads a number as long as T, big-endian, and returns it with its length in bytes. It refuses a number
// below least, since that one has a shorter encoding.
func number[T unsigned](s string, least T) (uint64, int, bool) {
	size := bits.Len64(uint64(^T(0))) / 8
	if len(s) < size {
		return 0, 0, false
	}
	n := uint64(0)
	for i := range size {
		n = n<<8 | uint64(s[i])
	}
	return n, size, T(n) >= least
}
