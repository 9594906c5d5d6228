package eid_test

import (
	"fmt"
	"math"
	"math/rand"
	"testing"
	"time"

	"dromond/api"
	"dromond/eid"
	"dromond/item"
)

// txt returns s as a text string.
func txt(s string) item.Item {
	return item.Item{Kind: 3, S: s}
}

// made returns the item of e, which is valid, by a model of its own.
func made(e api.EID) item.Item {
	second := txt(e.Name)
	if e.Scheme == 2 {
		second = item.Item{Kind: 4, L: []item.Item{{N: e.Node}, {N: e.Service}}}
	} else if e.Name == "none" {
		second = item.Item{}
	}
	return item.Item{Kind: 4, L: []item.Item{{N: uint64(e.Scheme)}, second}}
}

// told returns all of x as text, for comparing.
func told(x item.Item) string {
	return fmt.Sprintf("%#v", x)
}

// P10.1: Item, for every kind of name.
func TestItem(t *testing.T) {
	for _, e := range right() {
		x, err := eid.Item(e)
		if err != api.OK || !item.Same(x, made(e)) {
			t.Fatalf("%#v: %#v, error %d", e, x, err)
		}
	}
}

// P10.1: the bytes of items, two of which are the chapter's examples.
func TestItemBytes(t *testing.T) {
	for _, v := range []struct {
		e    api.EID
		want string
	}{
		{api.EID{Scheme: 1, Name: "//a/x"}, "\x82\x01\x65//a/x"},
		{api.EID{Scheme: 2, Node: 7, Service: 1}, "\x82\x02\x82\x07\x01"},
		{api.EID{Scheme: 1, Name: "none"}, "\x82\x01\x00"},
		{api.EID{Scheme: 1, Name: "//none/"}, "\x82\x01\x67//none/"},
		{api.EID{Scheme: 2}, "\x82\x02\x82\x00\x00"},
		{api.EID{Scheme: 2, Node: 4294967295, Service: 24}, "\x82\x02\x82\x1a\xff\xff\xff\xff\x18\x18"},
		{api.EID{Scheme: 2, Service: 4294967295}, "\x82\x02\x82\x00\x1a\xff\xff\xff\xff"},
	} {
		x, e1 := eid.Item(v.e)
		b, e2 := item.Build(x)
		if b != v.want || e1 != api.OK || e2 != api.OK {
			t.Errorf("%#v: %x, errors %d %d", v.e, b, e1, e2)
		}
	}
}

// P10.1, R5: each item is new memory, on every level.
func TestItemIsNewMemory(t *testing.T) {
	for _, e := range []api.EID{eid.None(), {Scheme: 1, Name: "//a/x"}, {Scheme: 2, Node: 7, Service: 1}} {
		x, _ := eid.Item(e)
		l := x.L[:cap(x.L)]
		for i := range l {
			for j := range l[i].L[:cap(l[i].L)] {
				l[i].L[:cap(l[i].L)][j] = item.Str("another")
			}
			l[i] = item.Str("another")
		}
		if y, err := eid.Item(e); err != api.OK || !item.Same(y, made(e)) {
			t.Errorf("%#v: %#v, error %d", e, y, err)
		}
	}
}

// is fails unless Of returns e for x.
func is(t *testing.T, x item.Item, e api.EID) {
	t.Helper()
	if got, err := eid.Of(x); got != e || err != api.OK {
		t.Fatalf("%#v: %#v, error %d, want %#v", x, got, err, e)
	}
}

// isNone fails unless Of returns ErrForm for x.
func isNone(t *testing.T, x item.Item) {
	t.Helper()
	if got, err := eid.Of(x); got != (api.EID{}) || err != api.ErrForm {
		t.Fatalf("%#v: %#v, error %d, want ErrForm", x, got, err)
	}
}

// P10.1: Of, for the item of every kind of name, whether it was made or parsed.
func TestOf(t *testing.T) {
	for _, e := range right() {
		is(t, made(e), e)
		b, _ := item.Build(made(e))
		x, _, _ := item.Parse(b)
		is(t, x, e)
	}
}

// P10.1: Of, for what would be the item of a name that is not valid.
func TestOfNotValid(t *testing.T) {
	for _, e := range all() {
		if permitted(e) {
			continue
		}
		if e.Node == 0 && e.Service == 0 && e.Name != "none" {
			isNone(t, item.List(item.Num(uint64(e.Scheme)), txt(e.Name)))
		}
		if e.Name == "" {
			isNone(t, item.List(item.Num(uint64(e.Scheme)), item.List(item.Num(e.Node), item.Num(e.Service))))
		}
	}
}

// P10.1: Of, for items that have one other element or one other form than that of a name.
func TestOfOtherForms(t *testing.T) {
	n, s, l := item.Num, item.Str, item.List
	for _, x := range []item.Item{
		n(0), n(1), n(2), s(""), txt(""), txt("none"), txt("//a/x"), txt("dtn:none"), l(), l(n(1)), l(n(2)),
		s("\x82\x01\x00"), l(l(n(1), n(0))), l(n(0), n(1)), l(n(1), n(0), n(0)), l(n(1), n(0), l()), l(n(1), n(0), n(1)),
		// "none" is not spelt as a text, and its number is 0.
		l(n(1), txt("none")), l(n(1), s("none")), l(n(1), n(1)), l(n(1), n(2)), l(n(1), n(math.MaxUint64)),
		l(n(1), n(1<<32)), l(n(2), n(0)), l(n(2), txt("none")), l(n(0), n(0)), l(n(3), n(0)), l(n(1), l()), l(n(1), txt("")),
		l(n(1), l(n(0))), l(n(1), s("")), l(txt("1"), n(0)), l(s("\x01"), n(0)), l(l(n(1)), n(0)), l(l(), n(0)),
		// A Name is a text string, and of scheme 1.
		l(n(1), s("//a/x")), l(n(2), txt("//a/x")), l(n(1), l(txt("//a/x"))), l(n(1), txt("//a/x"), n(0)), l(txt("//a/x")),
		l(n(1), txt("dtn://a/x")), l(n(0), txt("//a/x")), l(txt("//a/x"), n(1)), l(n(1<<32+1), txt("//a/x")),
		l(n(1<<63+1), txt("//a/x")), l(txt(""), txt("//a/x")), l(l(), txt("//a/x")), l(n(1), txt("7.1")),
		// Two numbers are of scheme 2.
		l(n(1), l(n(7), n(1))), l(n(3), l(n(7), n(1))), l(n(0), l(n(7), n(1))), l(n(2), l(n(7))), l(n(2), l()),
		l(n(2), l(n(7), n(1), n(1))), l(n(2), l(n(7), n(1), l())), l(n(2), n(7), n(1)), l(n(2), l(n(7), txt("1"))),
		l(n(2), l(n(7), s("\x01"))), l(n(2), l(s("\x07"), n(1))), l(n(2), l(n(7), l(n(1)))), l(n(2), l(l(n(7)), n(1))),
		l(n(2), l(n(7), l())), l(n(2), l(l(), n(1))), l(n(2), l(l(n(7), n(1)))), l(n(2), txt("7.1")), l(n(7), n(1)),
		l(n(1<<32+2), l(n(7), n(1))), l(n(2), l(txt(""), n(1))), l(n(2), l(n(7), txt(""))), l(l(n(7), n(1)), n(2)),
		l(l(n(2)), l(n(7), n(1))), l(txt("\x02"), l(n(7), n(1))), l(n(math.MaxUint64), l(n(7), n(1))),
	} {
		if !item.Right(x) {
			t.Fatalf("%#v is not valid", x)
		}
		isNone(t, x)
	}
}

// changes calls do with x where one field of one of its items has another value, on every level.
func changes(x item.Item, do func(item.Item)) {
	for _, kind := range []int{0, 1, 2, 3, 4, 5, 6, 7, -1, 8, 16, 256, 257, 259, 260, 1<<32 + 3, 1<<32 + 4, math.MinInt} {
		y := x
		y.Kind = kind
		do(y)
	}
	for _, n := range numbers {
		y := x
		y.N = n
		do(y)
	}
	for _, s := range append(names(), "1", "2", "7") {
		y := x
		y.S = s
		do(y)
	}
	y := x
	y.Open = !x.Open
	do(y)
	lists := [][]item.Item{
		nil, {}, {{}}, {{}, {}}, {{N: 1}, {}}, {{N: 2}, made(api.EID{Scheme: 2})}, {{N: 7}, {N: 1}},
		append([]item.Item{{}}, x.L...), append(x.L[:len(x.L):len(x.L)], item.Item{}),
	}
	for _, l := range lists {
		y := x
		y.L = l
		do(y)
	}
	for i := range x.L {
		changes(x.L[i], func(z item.Item) {
			y := x
			y.L = append([]item.Item(nil), x.L...)
			y.L[i] = z
			do(y)
		})
	}
}

// P10.1: Of, for every item that differs from that of a name in one field, most of which are not valid.
func TestOfChanged(t *testing.T) {
	names := map[string]api.EID{}
	for _, e := range right() {
		b, _ := item.Build(made(e))
		names[b] = e
	}
	others, known := 0, 0
	for _, e := range []api.EID{eid.None(), {Scheme: 1, Name: "//a/x"}, {Scheme: 2, Node: 7, Service: 1}} {
		changes(made(e), func(x item.Item) {
			b, _ := item.Build(x) // "" if x is not valid
			if e, ok := names[b]; ok {
				known++
				is(t, x, e)
			} else {
				others++
				isNone(t, x)
			}
		})
	}
	if others < 1000 || known < 100 {
		t.Errorf("%d of names, %d others", known, others)
	}
}

// P10.1: Of, for whatever is parsed from bytes near those of names: what is a name's item is the item of this name.
func TestOfBytes(t *testing.T) {
	r := rand.New(rand.NewSource(10))
	known, others := 0, 0
	for range 200000 {
		s, _ := item.Build(made(random(r)))
		b := []byte(s)
		for range r.Intn(3) {
			b[r.Intn(min(len(b), 8))] = byte(r.Intn(256))
		}
		x, _, err := item.Parse(string(b))
		if err != api.OK {
			continue
		}
		e, err := eid.Of(x)
		if err == api.ErrForm {
			others++
			isNone(t, x)
			continue
		}
		known++
		if built, _ := item.Build(made(e)); !permitted(e) || built != string(b) {
			t.Fatalf("%x is read as %#v", b, e)
		}
	}
	if known < 1000 || others < 1000 {
		t.Errorf("%d names, %d others", known, others)
	}
}

// P10.1, R5: Of leaves its argument as it is, with the spare capacity of its lists.
func TestOfLeavesItem(t *testing.T) {
	for _, e := range append(right()[:40], api.EID{Scheme: 1, Name: "//A/"}, api.EID{Scheme: 2, Node: 1 << 32}) {
		x := made(e)
		x.L = append(x.L, item.Str("spare"))[:2]
		if l := x.L[1].L; l != nil {
			x.L[1].L = append(l, item.Str("spare"))[:2]
		}
		was := told(x) + told(x.L[:3][2])
		eid.Of(x)
		if l := x.L[1].L; told(x)+told(x.L[:3][2]) != was || l != nil && l[:3][2].S != "spare" {
			t.Errorf("%#v: %#v", e, x)
		}
	}
}

// P10.1, R1: Of ends soon, however many items x has on all its levels, and if x contains itself.
func TestOfEndsSoon(t *testing.T) {
	ring := item.Item{Kind: 4, L: make([]item.Item, 2)}
	ring.L[0], ring.L[1] = ring, ring
	wide := item.Item{Kind: 4, L: make([]item.Item, 1000)}
	for range 7 {
		next := item.Item{Kind: 4, L: make([]item.Item, 1000)}
		for i := range next.L {
			next.L[i] = wide
		}
		wide = next
	}
	start := time.Now()
	for _, x := range []item.Item{ring, wide} {
		number, text := item.Item{L: x.L}, item.Item{Kind: 3, L: x.L}
		for _, y := range []item.Item{x, number, text} {
			for _, z := range []item.Item{
				y,
				{Kind: 4, L: []item.Item{y, item.Num(0)}},
				{Kind: 4, L: []item.Item{item.Num(1), y}},
				{Kind: 4, L: []item.Item{item.Num(2), y}},
				{Kind: 4, L: []item.Item{item.Num(2), {Kind: 4, L: []item.Item{y, y}}}},
				{Kind: 4, L: []item.Item{item.Num(2), {Kind: 4, L: []item.Item{item.Num(1), y}}}},
			} {
				if e, err := eid.Of(z); e != (api.EID{}) || err != api.ErrForm {
					t.Errorf("%#v, error %d", e, err)
				}
			}
		}
	}
	if d := time.Since(start); d > 10*time.Second {
		t.Errorf("%v", d)
	}
}
