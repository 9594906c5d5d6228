package primary_test

import (
	"encoding/binary"
	"fmt"
	"hash/crc32"
	"math"
	"math/rand"
	"regexp"
	"slices"
	"testing"
	"time"

	"dromond/api"
	"dromond/eid"
	"dromond/item"
	"dromond/primary"
)

// made returns the item of p with a right checksum. Its names are valid; all else of p may not be.
func made(p api.Primary) item.Item {
	l := []item.Item{
		item.Num(7), item.Num(p.Flags), item.Num(uint64(p.CRC)), named(p.Dst), named(p.Src), named(p.Rpt),
		item.List(item.Num(p.Time), item.Num(p.Seq)), item.Num(p.Life),
	}
	if p.Flags&frag != 0 {
		l = append(l, item.Num(p.Off), item.Num(p.Total))
	}
	if p.CRC == 1 || p.CRC == 2 {
		l = append(l, item.Str(""))
	}
	return resummed(item.List(l...))
}

// named returns the item of e, which is valid.
func named(e api.EID) item.Item {
	x, _ := eid.Item(e)
	return x
}

// sum returns the right checksum for x, whose last element is one: of the kind that x says.
func sum(x item.Item) string {
	l := slices.Clone(x.L)
	last := &l[len(l)-1]
	switch x.L[2].N {
	case 1:
		*last = item.Str("\x00\x00")
		b, _ := item.Build(item.List(l...))
		return string(binary.BigEndian.AppendUint16(nil, x25(b)))
	case 2:
		*last = item.Str("\x00\x00\x00\x00")
		b, _ := item.Build(item.List(l...))
		return string(binary.BigEndian.AppendUint32(nil, crc32.Checksum([]byte(b), crc32.MakeTable(crc32.Castagnoli))))
	}
	return ""
}

// resummed returns x with the right checksum, if its last element is a byte string and it says a kind of checksums.
func resummed(x item.Item) item.Item {
	if len(x.L) < 3 || x.L[len(x.L)-1].Kind != 2 || x.L[2].N != 1 && x.L[2].N != 2 {
		return x
	}
	x.L = slices.Clone(x.L)
	x.L[len(x.L)-1] = item.Str(sum(x))
	return x
}

// form returns the form of x: n for a number, b and its length for a byte string, t for a text string, brackets for an
// array that is not open, and ? for anything else. In x itself e stands for the item of a name, where one should be.
func form(x item.Item, level int) string {
	number := x.S == "" && len(x.L) == 0
	text := x.N == 0 && len(x.L) == 0
	array := x.N == 0 && x.S == "" && level < 8
	switch {
	case x.Kind == 0 && number && !x.Open:
		return "n"
	case x.Kind == 2 && text && !x.Open:
		return fmt.Sprint("b", len(x.S))
	case x.Kind == 3 && text && !x.Open:
		return "t"
	case x.Kind == 4 && array && !x.Open:
		s := "["
		for i, y := range x.L {
			if _, e := eid.Of(y); e == api.OK && level == 0 && 3 <= i && i <= 5 {
				s += "e"
			} else {
				s += form(y, level+1)
			}
		}
		return s + "]"
	}
	return "?"
}

// forms are the forms of items, by whether they are those of fragments and by the number of the CRC (at most 3).
var forms = [2][4]*regexp.Regexp{
	{
		regexp.MustCompile(`\A\[nnneee\[nn\]n\]\z`), regexp.MustCompile(`\A\[nnneee\[nn\]nb2\]\z`),
		regexp.MustCompile(`\A\[nnneee\[nn\]nb4\]\z`), regexp.MustCompile(`\A\[nnneee\[nn\]n\]\z`),
	},
	{
		regexp.MustCompile(`\A\[nnneee\[nn\]nnn\]\z`), regexp.MustCompile(`\A\[nnneee\[nn\]nnnb2\]\z`),
		regexp.MustCompile(`\A\[nnneee\[nn\]nnnb4\]\z`), regexp.MustCompile(`\A\[nnneee\[nn\]nnn\]\z`),
	},
}

// wanted returns what Of should return for x, by a model of its own.
func wanted(x item.Item) (api.Primary, api.Errno) {
	if len(x.L) < 8 || x.L[0].N != 7 {
		return api.Primary{}, api.ErrForm
	}
	p := api.Primary{Flags: x.L[1].N, CRC: int(min(x.L[2].N, 3)), Life: x.L[7].N}
	if !forms[p.Flags%2][p.CRC].MatchString(form(x, 0)) {
		return api.Primary{}, api.ErrForm
	}
	p.Dst, _ = eid.Of(x.L[3])
	p.Src, _ = eid.Of(x.L[4])
	p.Rpt, _ = eid.Of(x.L[5])
	p.Time, p.Seq = x.L[6].L[0].N, x.L[6].L[1].N
	if p.Flags%2 == 1 {
		p.Off, p.Total = x.L[8].N, x.L[9].N
	}
	if s := sum(x); s != "" && s != x.L[len(x.L)-1].S {
		return api.Primary{}, api.ErrCRC
	}
	if e := checked(p); e != api.OK {
		return api.Primary{}, e
	}
	return p, api.OK
}

// is fails unless Of returns p and e for x.
func is(t *testing.T, x item.Item, p api.Primary, e api.Errno) {
	t.Helper()
	if got, err := primary.Of(x); got != p || err != e {
		t.Fatalf("%#v: %#v, error %d, want %#v, error %d", x, got, err, p, e)
	}
}

// likeModel fails unless Of returns for x what the model returns. It returns the model's error.
func likeModel(t *testing.T, x item.Item) api.Errno {
	t.Helper()
	p, e := wanted(x)
	is(t, x, p, e)
	return e
}

// hasNames reports whether the names of p are valid.
func hasNames(p api.Primary) bool {
	return eid.Right(p.Dst) && eid.Right(p.Src) && eid.Right(p.Rpt)
}

// P11.1, P11.2: Of, for the items of all kinds of valid primary blocks, whether they were made or parsed.
func TestOf(t *testing.T) {
	for _, p := range valid() {
		x, e := primary.Item(p)
		if e != api.OK {
			t.Fatalf("%#v: error %d", p, e)
		}
		is(t, x, p, api.OK)
		is(t, parsed(t, bytesOf(p)), p, api.OK)
	}
}

// P11.1: Of returns Right's error for what would be the item of a primary block that is not valid.
func TestOfNotValid(t *testing.T) {
	count := map[api.Errno]int{}
	for _, p := range many() {
		if !hasNames(p) {
			continue
		}
		want := checked(p)
		if p.CRC >= 0 && (p.Flags%2 == 1 || p.Off == 0 && p.Total == 0) {
			if got := likeModel(t, made(p)); got != want {
				t.Fatalf("%#v: the model says %d, want %d", p, got, want)
			}
			count[want]++
		}
	}
	if count[api.OK] < 100 || count[api.ErrArg] < 100 || count[api.ErrRule] < 100 {
		t.Errorf("too few of one kind: %v", count)
	}
}

// bases returns items of all forms, of primary blocks that are valid and of others that are not.
func bases() []item.Item {
	var l []item.Item
	for _, p := range []api.Primary{plain(), piece()} {
		for kind := range 4 {
			p.CRC = kind
			l = append(l, made(p))
			q := p
			q.Dst, q.Src, q.Rpt = dtn("//a/x"), dtn("none"), ipn(7, 1)
			q.Flags |= noFrag | 1<<21
			l = append(l, made(q))
			q.Flags, q.Life = p.Flags|here|admin, most+1
			l = append(l, made(q))
		}
	}
	return l
}

// others are elements that may take an element's place.
func others() []item.Item {
	n, s, l := item.Num, item.Str, item.List
	return []item.Item{
		n(0), n(1), n(2), n(3), n(6), n(7), n(8), n(256 + 7), n(1<<32 + 7), n(1<<32 + 1), n(1<<32 + 2), n(1 << 21),
		n(1<<21 + 1), n(most), n(most + 1), n(1 << 63), n(1<<63 + 1), n(1<<63 + 2), n(math.MaxUint64 - 1),
		n(math.MaxUint64), s(""), s("\x07"), s("\x00"), s("\x00\x00"), s("\x00\x00\x00"), s("\x00\x00\x00\x00"),
		s("\x00\x00\x00\x00\x00"), {Kind: 3}, {Kind: 3, S: "7"}, {Kind: 3, S: "\x00\x00"}, {Kind: 3, S: "none"},
		{Kind: 3, S: "\x00\x00\x00\x00"}, {Kind: 3, S: "//a/x"}, l(), l(n(1), n(0)), l(n(2), l(n(3), n(4))),
		l(n(1), item.Item{Kind: 3, S: "//b/"}), l(n(5), n(6)), l(n(5)), l(n(5), n(6), n(7)), l(n(2), l(n(1<<32), n(0))),
		l(n(1), item.Item{Kind: 3, S: "none"}), l(s("")), l(l(), l()), {Kind: 4, Open: true},
		{Kind: 4, L: []item.Item{n(1), n(0)}, Open: true}, {Kind: 4, L: []item.Item{n(5), n(6)}, Open: true},
		{Kind: 1}, {Kind: 5}, {Kind: 6}, {Kind: 7}, {Kind: -1}, {Kind: 256}, {Kind: math.MinInt},
	}
}

// spoilt calls do with x after each change of one field of x or of an element at any depth, after each element has
// been removed, doubled or replaced, and after another one has been inserted anywhere.
func spoilt(x item.Item, do func(item.Item)) {
	fields(x, do)
	with := func(l ...[]item.Item) {
		y := x
		y.L = slices.Concat(l...)
		do(y)
	}
	for i, y := range x.L {
		with(x.L[:i], x.L[i+1:])
		with(x.L[:i])
		with(x.L[i+1:])
		with(x.L[:i+1], x.L[i:])
		for _, z := range others() {
			with(x.L[:i], []item.Item{z}, x.L[i+1:])
			with(x.L[:i], []item.Item{z}, x.L[i:])
			with(x.L[:i+1], []item.Item{z})
		}
		spoilt(y, func(z item.Item) { with(x.L[:i], []item.Item{z}, x.L[i+1:]) })
		for j := range i {
			l := slices.Clone(x.L)
			l[i], l[j] = l[j], l[i]
			with(l)
		}
	}
	with(x.L, x.L)
}

// fields calls do with x after changes of one of its fields.
func fields(x item.Item, do func(item.Item)) {
	for _, f := range []func(y *item.Item){
		func(y *item.Item) { y.Kind = 0 },
		func(y *item.Item) { y.Kind = 2 },
		func(y *item.Item) { y.Kind = 3 },
		func(y *item.Item) { y.Kind = 4 },
		func(y *item.Item) { y.Kind |= 1 << 32 },
		func(y *item.Item) { y.N++ },
		func(y *item.Item) { y.N ^= 1 << 63 },
		func(y *item.Item) { y.S += "\x00" },
		func(y *item.Item) { y.S += "\x00\x00" },
		func(y *item.Item) { y.S = "" },
		func(y *item.Item) { y.L = append(slices.Clone(y.L), item.Item{}) },
		func(y *item.Item) { y.L = nil },
		func(y *item.Item) { y.L = []item.Item{} },
		func(y *item.Item) { y.Open = !y.Open },
	} {
		y := x
		f(&y)
		do(y)
	}
}

// P11.1: Of, for all items that come from one of any form by one change, with the checksum as it was and a right one.
func TestOfChanged(t *testing.T) {
	count := map[api.Errno]int{}
	for _, x := range bases() {
		spoilt(x, func(y item.Item) {
			count[likeModel(t, y)]++
			count[likeModel(t, resummed(y))]++
		})
	}
	for _, e := range []api.Errno{api.OK, api.ErrForm, api.ErrCRC, api.ErrArg, api.ErrRule} {
		if count[e] < 100 {
			t.Errorf("too few of one kind: %v", count)
		}
	}
}

// P11.1: Of, for items with several random changes.
func TestOfChangedOften(t *testing.T) {
	r := rand.New(rand.NewSource(11))
	count := map[api.Errno]int{}
	all := bases()
	values := others()
	for range 100000 {
		x := all[r.Intn(len(all))]
		x.L = slices.Clone(x.L)
		for range 1 + r.Intn(4) {
			x.L[r.Intn(len(x.L))] = values[r.Intn(len(values))]
		}
		count[likeModel(t, x)]++
		count[likeModel(t, resummed(x))]++
	}
	if count[api.ErrForm] < 1000 || count[api.ErrCRC] < 10 || count[api.ErrArg] < 10 {
		t.Errorf("too few of one kind: %v", count)
	}
}

// P11.1: Of, case by case, with a change of the item of a primary block whose CRC is 2.
func TestOfCases(t *testing.T) {
	n, s := item.Num, item.Str
	for _, c := range []struct {
		about string
		turn  func(x *item.Item)
		want  api.Errno
	}{
		{"as it is", func(x *item.Item) {}, api.OK},
		{"an open array", func(x *item.Item) { x.Open = true }, api.ErrForm},
		{"a number", func(x *item.Item) { *x = n(7) }, api.ErrForm},
		{"nothing", func(x *item.Item) { x.L = nil }, api.ErrForm},
		{"version 6", func(x *item.Item) { x.L[0] = n(6) }, api.ErrForm},
		{"version as a text", func(x *item.Item) { x.L[0] = item.Item{Kind: 3, S: "7"} }, api.ErrForm},
		{"no checksum", func(x *item.Item) { x.L = x.L[:8] }, api.ErrForm},
		{"another element", func(x *item.Item) { x.L = append(x.L, n(0)) }, api.ErrForm},
		{"another element ahead of the checksum", func(x *item.Item) { x.L = append(x.L[:8:8], n(0), x.L[8]) }, api.ErrForm},
		{"a short checksum", func(x *item.Item) { x.L[8] = s("\x00\x00") }, api.ErrForm},
		{"a long checksum", func(x *item.Item) { x.L[8].S += "\x00" }, api.ErrForm},
		{"a checksum as a text", func(x *item.Item) { x.L[8].Kind = 3 }, api.ErrForm},
		{"a zero checksum", func(x *item.Item) { x.L[8] = s("\x00\x00\x00\x00") }, api.ErrCRC},
		{"another Life", func(x *item.Item) { x.L[7] = n(101) }, api.ErrCRC},
		{"a checksum without CRC", func(x *item.Item) { x.L[2] = n(0) }, api.ErrForm},
		{"a checksum with CRC 3", func(x *item.Item) { x.L[2] = n(3) }, api.ErrForm},
		{"CRC 3", func(x *item.Item) { x.L[2], x.L = n(3), x.L[:8] }, api.ErrArg},
		{"CRC 2^32 + 2", func(x *item.Item) { x.L[2], x.L = n(1<<32+2), x.L[:8] }, api.ErrArg},
		{"a greatest CRC", func(x *item.Item) { x.L[2], x.L = n(math.MaxUint64), x.L[:8] }, api.ErrArg},
		{"IsFrag", func(x *item.Item) { x.L[1] = n(1) }, api.ErrForm},
		{"Flags too great, wrong checksum", func(x *item.Item) { x.L[1] = n(1 << 21) }, api.ErrCRC},
		{"Flags too great, no checksum", func(x *item.Item) { x.L[1], x.L[2], x.L = n(1<<21), n(0), x.L[:8] }, api.ErrArg},
		{"IsFrag, too great", func(x *item.Item) { x.L[1], x.L[2], x.L = n(1<<63+1), n(0), x.L[:8] }, api.ErrForm},
		{"Life too great, wrong checksum", func(x *item.Item) { x.L[7] = n(most + 1) }, api.ErrCRC},
		{"reports of an admin", func(x *item.Item) { x.L[1], x.L[2], x.L = n(admin|gone), n(0), x.L[:8] }, api.ErrRule},
		{"Dst no name, wrong checksum", func(x *item.Item) { x.L[3] = item.List(n(3), n(0)) }, api.ErrForm},
		{"Src as a text", func(x *item.Item) { x.L[4] = item.Item{Kind: 3, S: "ipn:1.0"} }, api.ErrForm},
		{"Rpt a number", func(x *item.Item) { x.L[5] = n(0) }, api.ErrForm},
		{"Time alone", func(x *item.Item) { x.L[6] = item.List(n(5)) }, api.ErrForm},
		{"Time and Seq open", func(x *item.Item) { x.L[6].Open = true }, api.ErrForm},
		{"Time not in an array", func(x *item.Item) { x.L[6] = n(5) }, api.ErrForm},
		{"three times", func(x *item.Item) { x.L[6] = item.List(n(5), n(0), n(0)) }, api.ErrForm},
		{"Seq as bytes", func(x *item.Item) { x.L[6] = item.List(n(5), s("")) }, api.ErrForm},
		{"Life as bytes", func(x *item.Item) { x.L[7] = s("") }, api.ErrForm},
	} {
		p := plain()
		p.CRC = 2
		x := made(p)
		c.turn(&x)
		if got := likeModel(t, x); got != c.want {
			t.Errorf("%s: error %d, want %d", c.about, got, c.want)
		}
	}
	is(t, item.Item{}, api.Primary{}, api.ErrForm)
}

// P11.1: Of, for each wrong checksum that has one other byte.
func TestOfChecksums(t *testing.T) {
	for kind := 1; kind <= 2; kind++ {
		p := piece()
		p.CRC = kind
		x := made(p)
		right := x.L[10].S
		for i := range right {
			for b := range 256 {
				x.L[10].S = right[:i] + string([]byte{byte(b)}) + right[i+1:]
				if right == x.L[10].S {
					is(t, x, p, api.OK)
				} else {
					is(t, x, api.Primary{}, api.ErrCRC)
				}
			}
		}
	}
}

// P11.1, R5: Of neither changes an item nor what follows it in its memory, nor does what it returns hang on that.
func TestOfLeavesItem(t *testing.T) {
	for _, x := range bases() {
		want, e := wanted(x)
		l := make([]item.Item, 20)
		for i := copy(l, x.L); i < len(l); i++ {
			l[i] = item.Str("spare")
		}
		x.L = l[:len(x.L)]
		before := told(item.List(l...))
		got, err := primary.Of(x)
		if told(item.List(l...)) != before {
			t.Errorf("the item was changed: %s", told(x))
		}
		spoil(x)
		if got != want || err != e {
			t.Errorf("%#v, error %d, want %#v, error %d", got, err, want, e)
		}
	}
}

// tower returns a valid item of that many levels, each but the last with the greatest number of elements.
func tower(levels int) item.Item {
	if levels == 1 {
		return item.Num(7)
	}
	return item.Item{Kind: 4, L: slices.Repeat([]item.Item{tower(levels - 1)}, 1000)}
}

// R1: Of ends soon, even if an element contains itself or has very many elements.
func TestOfEndsSoon(t *testing.T) {
	round := make([]item.Item, 1000)
	for i := range round {
		round[i] = item.Item{Kind: 4, L: round}
	}
	many := make([]item.Item, 1000000)
	start := time.Now()
	for _, huge := range []item.Item{
		tower(6), tower(7), tower(8), tower(9), {Kind: 4, L: round}, {Kind: 4, L: many}, {Kind: 2, L: round}, {L: many},
	} {
		is(t, huge, api.Primary{}, api.ErrForm)
		for _, x := range bases() {
			for i := range x.L {
				y := x
				y.L = slices.Clone(x.L)
				y.L[i] = huge
				is(t, y, api.Primary{}, api.ErrForm)
			}
			x.L = append(slices.Clone(x.L), huge)
			is(t, x, api.Primary{}, api.ErrForm)
			x.L[6] = item.Item{Kind: 4, L: []item.Item{huge, huge}}
			is(t, x, api.Primary{}, api.ErrForm)
		}
	}
	if took := time.Since(start); took > 10*time.Second {
		t.Errorf("it took %v", took)
	}
}
