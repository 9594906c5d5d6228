package engine

import "dromond/api"

// numberSize is the number of bytes in which fresh bytes spell the number of an entry.
const numberSize = 8

// entry is what was signed or sealed; the variant tells which. What was signed has no nonce and no associated data.
type entry struct {
	variant                int
	key, nonce, with, text string
}

// idealCore has the table of what was signed and sealed. Entry n is at n - 1. Its fresh bytes are not kept, as its
// number tells them.
type idealCore struct {
	table []entry
}

// sign adds an entry and returns its tag.
func (c *idealCore) sign(variant int, key, text string) string {
	n := c.add(entry{variant: variant, key: key, text: text})
	return fresh(n, Size(variant))
}

// holds reports whether an entry of what was signed has this tag and all of this.
func (c *idealCore) holds(variant int, key, text, tag string) bool {
	_, x, ok := c.tagged(tag)
	return ok && x == entry{variant: variant, key: key, text: text}
}

// seal adds an entry and returns its fresh text and its tag.
func (c *idealCore) seal(variant int, key, nonce, with, text string) (string, string, api.Errno) {
	n := c.add(entry{variant, key, nonce, with, text})
	return fresh(n, len(text)), fresh(n, Size(variant)), api.OK
}

// open returns the text of the entry that has this fresh text, this tag and all the rest, or ErrSec if there is none.
func (c *idealCore) open(variant int, key, nonce, with, text, tag string) (string, api.Errno) {
	n, x, ok := c.tagged(tag)
	// The caller knows all of the entry but its text.
	known := entry{variant, key, nonce, with, x.text}
	if !ok || x != known || text != fresh(n, len(x.text)) {
		return "", api.ErrSec
	}
	return x.text, api.OK
}

// entries returns how many there are.
func (c *idealCore) entries() int {
	return len(c.table)
}

// add appends an entry and returns its number.
func (c *idealCore) add(x entry) uint64 {
	c.table = append(c.table, x)
	return uint64(len(c.table))
}

// tagged returns the entry that has this tag, with its number, and whether there is one. There is no need to search
// for it: a tag begins with the number of its entry.
func (c *idealCore) tagged(tag string) (uint64, entry, bool) {
	n := numberOf(tag)
	if n < 1 || n > uint64(len(c.table)) {
		return 0, entry{}, false
	}
	x := c.table[n-1]
	return n, x, tag == fresh(n, Size(x.variant))
}

// fresh returns that many fresh bytes for entry n.
func fresh(n uint64, size int) string {
	b := make([]byte, size)
	for i := range b {
		b[i] = byte(n >> (8 * (numberSize - 1 - i%numberSize)))
	}
	return string(b)
}

// numberOf returns the number that b begins with, or 0, which no entry has, if b is too short for one.
func numberOf(b string) uint64 {
	if len(b) < numberSize {
		return 0
	}
	n := uint64(0)
	for i := range numberSize {
		n = n<<8 | uint64(b[i])
	}
	return n
}
