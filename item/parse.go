package item

import (
	"math"
	"strings"

	"dromond/api"
	"dromond/cbor"
)

// parser reads items from a text. It leaves errors to its reader, which keeps the first one and its offset.
type parser struct {
	text string
	in   *cbor.Reader
}

// Parse returns the item whose bytes b is, and -1, or the offset of the first error.
func Parse(b string) (Item, int, api.Errno) {
	p := parser{b, cbor.NewReader(b)}
	x := p.item(1)
	if !p.in.Done() {
		p.in.Fail(api.ErrForm)
	}
	if at, e := p.in.Bad(); e != api.OK {
		return Item{}, at, e
	}
	return x, -1, api.OK
}

// item reads an item on that level.
func (p parser) item(level int) Item {
	kind := p.kind()
	if level > api.MaxDeep {
		p.in.Fail(api.ErrDeep)
	}
	switch kind {
	case kindNumber:
		return Item{Kind: kind, N: p.in.Uint()}
	case kindBytes:
		return Item{Kind: kind, S: p.in.Bytes(math.MaxInt)}
	case kindText:
		return Item{Kind: kind, S: p.in.Text(math.MaxInt)}
	case kindArray:
		return p.array(level)
	}
	return Item{}
}

// kind returns the kind of the item that follows. Its head is read ahead by a second reader, because the first
// one reads it together with what belongs to it.
func (p parser) kind() int {
	ahead := cbor.NewReader(p.text[p.in.At():])
	major, _, _ := ahead.Head()
	_, e := ahead.Bad()
	p.in.Fail(e)
	switch major {
	case kindNumber, kindBytes, kindText, kindArray:
	default:
		p.in.Fail(api.ErrForm)
	}
	return major
}

// array reads an array on that level.
func (p parser) array(level int) Item {
	n := p.in.Array()
	if n < 0 {
		return Item{Kind: kindArray, L: p.openList(level + 1), Open: true}
	}
	return Item{Kind: kindArray, L: p.list(n, level+1)}
}

// list reads n items on that level, or fewer if one fails.
func (p parser) list(n, level int) []Item {
	var l []Item
	for len(l) < n && p.fine() {
		l = append(l, p.item(level))
	}
	return l
}

// openList reads items on that level up to the break, and the break.
func (p parser) openList(level int) []Item {
	var l []Item
	for p.fine() && !p.atBreak() {
		if len(l) == maxItems {
			p.in.Fail(api.ErrLong)
			break
		}
		l = append(l, p.item(level))
	}
	p.in.Head()
	return l
}

// fine reports whether nothing has failed.
func (p parser) fine() bool {
	_, e := p.in.Bad()
	return e == api.OK
}

// atBreak reports whether a break follows. What else follows is not looked at: after the last item that an open
// array may have, it makes no difference.
func (p parser) atBreak() bool {
	return strings.HasPrefix(p.text[p.in.At():], cbor.Open(majorBreak))
}
