package primary

import (
	"dromond/api"
	"dromond/crc"
	"dromond/eid"
	"dromond/item"
)

// The kinds of items, as layer 2 numbers them.
const (
	kindNumber = 0
	kindBytes  = 2
	kindArray  = 4
)

// noKind is the least number that is not a kind of checksums.
const noKind = 3

// Of returns the primary block whose item x is: ErrForm if x does not have the form of one, ErrCRC if its checksum is
// wrong, or the error of Right.
func Of(x item.Item) (api.Primary, api.Errno) {
	p, sum, ok := read(x)
	if !ok {
		return api.Primary{}, api.ErrForm
	}
	if sum != "" && sum != checksum(p.CRC, x.L[:len(x.L)-1]) {
		return api.Primary{}, api.ErrCRC
	}
	if e := Right(p); e != api.OK {
		return api.Primary{}, e
	}
	return p, api.OK
}

// read returns the primary block that x has the form of, which need not be valid, and the checksum of x, or "" if it
// has none. It reports whether x has such a form.
func read(x item.Item) (p api.Primary, sum string, ok bool) {
	r := elementsIn(x)
	r.must(r.number() == version)
	p.Flags = r.number()
	p.CRC = r.kind()
	p.Dst, p.Src, p.Rpt = r.name(), r.name(), r.name()
	p.Time, p.Seq = r.pair()
	p.Life = r.number()
	if has(p, api.IsFrag) {
		p.Off, p.Total = r.number(), r.number()
	}
	if size := crc.Size(p.CRC); size > 0 {
		sum = r.bytes(size)
	}
	return p, sum, r.done()
}

// reader reads the elements of an array one after another. It keeps whether one was missing or another than expected.
type reader struct {
	left   []item.Item
	failed bool
}

// elementsIn returns a reader of the elements of x. It has failed if x is not an array, or is open.
func elementsIn(x item.Item) *reader {
	r := &reader{left: x.L}
	r.must(x.Kind == kindArray && !x.Open && x.N == 0 && x.S == "")
	return r
}

// must makes reading fail unless ok.
func (r *reader) must(ok bool) {
	r.failed = r.failed || !ok
}

// done reports whether nothing has failed, and nothing is left.
func (r *reader) done() bool {
	return !r.failed && len(r.left) == 0
}

// next returns the next element, or one of no kind if there is none.
func (r *reader) next() item.Item {
	if len(r.left) == 0 {
		return item.Item{Kind: -1}
	}
	x := r.left[0]
	r.left = r.left[1:]
	return x
}

// element returns the next element, which must be of that kind and valid. The kind is not an array's: layer 2 would
// examine all levels of that, and there may be too many.
func (r *reader) element(kind int) item.Item {
	x := r.next()
	r.must(x.Kind == kind && item.Right(x))
	return x
}

// number reads a number.
func (r *reader) number() uint64 {
	return r.element(kindNumber).N
}

// kind reads the kind of a checksum. A greater number becomes noKind, as its conversion could be a kind.
func (r *reader) kind() int {
	return int(min(r.number(), noKind))
}

// bytes reads a byte string of that length.
func (r *reader) bytes(size int) string {
	s := r.element(kindBytes).S
	r.must(len(s) == size)
	return s
}

// name reads a name.
func (r *reader) name() api.EID {
	e, err := eid.Of(r.next())
	r.must(err == api.OK)
	return e
}

// pair reads an array of two numbers.
func (r *reader) pair() (uint64, uint64) {
	pair := elementsIn(r.next())
	a, b := pair.number(), pair.number()
	r.must(pair.done())
	return a, b
}
