package item_test

import (
	"math"
	"reflect"
	"strings"
	"testing"

	"dromond/api"
	"dromond/item"
)

// txt returns s as a text string.
func txt(s string) item.Item {
	return item.Item{Kind: 3, S: s}
}

// open returns an open array.
func open(l ...item.Item) item.Item {
	return item.Item{Kind: 4, L: l, Open: true}
}

// nest returns x inside of that many arrays.
func nest(levels int, x item.Item) item.Item {
	for range levels {
		x = item.Item{Kind: 4, L: []item.Item{x}}
	}
	return x
}

// zeros returns that many numbers 0.
func zeros(n int) []item.Item {
	return make([]item.Item, n)
}

// endless returns an array of that many elements, each of which is the array itself.
func endless(width int) item.Item {
	x := item.Item{Kind: 4, L: make([]item.Item, width)}
	for i := range x.L {
		x.L[i] = x
	}
	return x
}

// valid are valid items with their bytes.
func valid() []struct {
	x item.Item
	b string
} {
	return []struct {
		x item.Item
		b string
	}{
		{item.Item{}, "\x00"},
		{item.Num(0), "\x00"},
		{item.Num(23), "\x17"},
		{item.Num(24), "\x18\x18"},
		{item.Num(500), "\x19\x01\xf4"},
		{item.Num(1 << 16), "\x1a\x00\x01\x00\x00"},
		{item.Num(math.MaxUint64), "\x1b\xff\xff\xff\xff\xff\xff\xff\xff"},
		{item.Item{Kind: 0, L: zeros(0)}, "\x00"},
		{item.Str(""), "\x40"},
		{item.Str("a"), "\x41a"},
		{item.Str("\xff\x00"), "\x42\xff\x00"},
		{item.Str(strings.Repeat("b", 5000)), "\x59\x13\x88" + strings.Repeat("b", 5000)},
		{item.Item{Kind: 2, L: zeros(0)}, "\x40"},
		{txt(""), "\x60"},
		{txt("none"), "\x64none"},
		{txt("\xff"), "\x61\xff"},
		{txt(strings.Repeat("t", 5000)), "\x79\x13\x88" + strings.Repeat("t", 5000)},
		{item.Item{Kind: 3, L: zeros(0)}, "\x60"},
		{item.List(), "\x80"},
		{item.Item{Kind: 4, L: zeros(0)}, "\x80"},
		{item.List(item.Num(1), item.Str("a")), "\x82\x01\x41a"},
		{item.List(item.List(), open(), txt("x")), "\x83\x80\x9f\xff\x61x"},
		{item.List(zeros(1000)...), "\x99\x03\xe8" + strings.Repeat("\x00", 1000)},
		{open(), "\x9f\xff"},
		{open(item.Num(5)), "\x9f\x05\xff"},
		{open(open(), item.List(item.Num(7)), open(item.Num(24))), "\x9f\x9f\xff\x81\x07\x9f\x18\x18\xff\xff"},
		{open(zeros(1000)...), "\x9f" + strings.Repeat("\x00", 1000) + "\xff"},
		{nest(7, item.Num(3)), "\x81\x81\x81\x81\x81\x81\x81\x03"},
		{nest(7, item.List()), "\x81\x81\x81\x81\x81\x81\x81\x80"},
		{nest(7, open()), "\x81\x81\x81\x81\x81\x81\x81\x9f\xff"},
		{item.List(item.Num(1), nest(6, item.Str("z")), item.Num(2)), "\x83\x01\x81\x81\x81\x81\x81\x81\x41z\x02"},
	}
}

// invalid are items that are not valid, each for one reason.
func invalid() []item.Item {
	return []item.Item{
		{Kind: -1},
		{Kind: 1},
		{Kind: 5},
		{Kind: 6},
		{Kind: 7},
		{Kind: 8},
		{Kind: math.MinInt},
		{Kind: math.MaxInt},
		{Kind: 256},
		{Kind: 0, S: "a"},
		{Kind: 0, N: 1, S: "a"},
		{Kind: 0, L: zeros(1)},
		{Kind: 0, Open: true},
		{Kind: 2, N: 1},
		{Kind: 2, S: "a", L: zeros(1)},
		{Kind: 2, S: "a", Open: true},
		{Kind: 3, N: 1},
		{Kind: 3, S: "a", L: zeros(1)},
		{Kind: 3, S: "a", Open: true},
		{Kind: 4, N: 1},
		{Kind: 4, S: "a"},
		{Kind: 4, N: 1, Open: true},
		{Kind: 4, S: "a", Open: true},
		{Kind: 4, L: zeros(1001)},
		{Kind: 4, L: zeros(1001), Open: true},
		item.List(item.Item{Kind: 1}),
		item.List(item.Num(1), item.Item{Kind: 1}),
		item.List(item.Item{Kind: 1}, item.Num(1)),
		item.List(item.Num(1), item.List(item.Num(1), item.Item{Kind: 2, N: 1}), item.Num(1)),
		item.List(item.Item{Kind: 4, L: zeros(1001)}),
		open(item.Item{Kind: 3, N: 1}),
		nest(8, item.Num(0)),
		nest(8, item.Str("")),
		nest(8, txt("")),
		nest(8, item.List()),
		nest(8, open()),
		nest(9, item.Num(0)),
		nest(50, item.Num(0)),
		item.List(item.Num(1), nest(7, item.Num(1))),
		open(open(nest(6, open()))),
		nest(7, item.Item{Kind: 9}),
		endless(1),
		endless(2),
		endless(1000),
		nest(3, endless(1000)),
	}
}

// P2.1: Right, of all that is valid.
func TestRight(t *testing.T) {
	for _, v := range valid() {
		if !item.Right(v.x) {
			t.Errorf("not right: %.40x", v.b)
		}
	}
}

// P2.1: Right, of what is not valid.
func TestRightOfInvalid(t *testing.T) {
	for i, x := range invalid() {
		if item.Right(x) {
			t.Errorf("right: invalid %d", i)
		}
	}
}

// P2.1: Num, Str and List. All fields that are not named are zero (R6).
func TestMake(t *testing.T) {
	for _, v := range []struct{ got, want item.Item }{
		{item.Num(0), item.Item{}},
		{item.Num(7), item.Item{Kind: 0, N: 7}},
		{item.Num(math.MaxUint64), item.Item{Kind: 0, N: math.MaxUint64}},
		{item.Str(""), item.Item{Kind: 2}},
		{item.Str("a\xff"), item.Item{Kind: 2, S: "a\xff"}},
		{item.List(item.Num(7)), item.Item{Kind: 4, L: []item.Item{{N: 7}}}},
		{item.List(open(txt("a")), item.Str("b")), item.Item{Kind: 4, L: []item.Item{
			{Kind: 4, Open: true, L: []item.Item{{Kind: 3, S: "a"}}}, {Kind: 2, S: "b"}}}},
	} {
		if !reflect.DeepEqual(v.got, v.want) {
			t.Errorf("%+v, want %+v", v.got, v.want)
		}
	}
	if x := item.List(); x.Kind != 4 || len(x.L) != 0 || x.N != 0 || x.S != "" || x.Open {
		t.Errorf("List() = %+v", x)
	}
}

// P2.1: List takes items that are not valid as they are; the array is not valid either.
func TestListOfInvalid(t *testing.T) {
	bad := item.Item{Kind: 9, N: 1, S: "s", L: zeros(2), Open: true}
	if x := item.List(bad); !reflect.DeepEqual(x.L, []item.Item{bad}) || item.Right(x) {
		t.Errorf("%+v", x)
	}
	for i, bad := range invalid() {
		if x := item.List(item.Num(1), bad); len(x.L) != 2 || item.Right(x) {
			t.Errorf("invalid %d", i)
		}
	}
	if x := item.List(nest(9, item.Num(5))); !reflect.DeepEqual(x, nest(10, item.Num(5))) {
		t.Errorf("%+v", x)
	}
	if x := item.List(zeros(1001)...); len(x.L) != 1001 {
		t.Errorf("%d elements", len(x.L))
	}
}

// R5: what List returns shares no memory with its arguments, on any level, and no two of its parts share any.
func TestListIsNewMemory(t *testing.T) {
	inner := []item.Item{item.Num(1), item.Num(2)}
	middle := []item.Item{{Kind: 4, L: inner}, item.Num(3)}
	outer := append(make([]item.Item, 0, 9), open(middle...), open(middle...))
	x := item.List(outer...)
	want := item.List(open(item.List(item.Num(1), item.Num(2)), item.Num(3)), open(item.List(item.Num(1), item.Num(2)), item.Num(3)))
	inner[1] = item.Num(9)
	middle[1] = item.Num(9)
	outer[0] = item.Num(9)
	if !item.Same(x, want) {
		t.Errorf("changed with the arguments: %+v", x)
	}
	x.L[0].L[0].L[0] = item.Num(8)
	x.L[0].L[1] = item.Num(8)
	if x.L[1].L[0].L[0].N != 1 || x.L[1].L[1].N != 3 {
		t.Errorf("the elements share memory: %+v", x)
	}
	if inner[0].N != 1 || len(outer) != 2 || outer[:3][2].Kind != 0 || outer[:3][2].L != nil {
		t.Error("an argument was modified")
	}
}

// P2.1: valid items are the same as those with the same bytes, and as no others.
func TestSame(t *testing.T) {
	l, m := valid(), valid()
	for i, a := range l {
		for j, b := range m {
			if got, want := item.Same(a.x, b.x), a.b == b.b; got != want {
				t.Errorf("valid %d and %d: %t", i, j, got)
			}
		}
	}
}

// P2.1: items that differ in one thing only are not the same.
func TestSameOfDifferent(t *testing.T) {
	for i, v := range []struct{ a, b item.Item }{
		{item.Num(1), item.Num(2)},
		{item.Num(0), item.Str("")},
		{item.Num(0), item.List()},
		{item.Str("a"), item.Str("b")},
		{item.Str("a"), item.Str("ab")},
		{item.Str("a"), txt("a")},
		{item.Str(""), item.List()},
		{item.List(), open()},
		{item.List(item.Num(1)), open(item.Num(1))},
		{item.List(item.Num(1)), item.Num(1)},
		{item.List(item.Num(1)), item.List(item.Num(1), item.Num(1))},
		{item.List(), item.List(item.Num(0))},
		{item.List(item.Num(1), item.Num(2)), item.List(item.Num(2), item.Num(1))},
		{item.List(item.List(), item.Num(2)), item.List(open(), item.Num(2))},
		{nest(7, item.Num(1)), nest(7, item.Num(2))},
		{nest(6, item.Num(1)), nest(7, item.Num(1))},
	} {
		if item.Same(v.a, v.b) || item.Same(v.b, v.a) {
			t.Errorf("the same: pair %d", i)
		}
		if !item.Same(v.a, v.a) || !item.Same(v.b, v.b) {
			t.Errorf("not the same as itself: pair %d", i)
		}
	}
}

// P2.1: what is not valid is the same as nothing, not even as itself.
func TestSameOfInvalid(t *testing.T) {
	for i, x := range invalid() {
		if item.Same(x, x) || item.Same(x, item.Num(0)) || item.Same(item.Num(0), x) {
			t.Errorf("the same: invalid %d", i)
		}
	}
}

// P2.1: Build, of all that is valid.
func TestBuild(t *testing.T) {
	for _, v := range valid() {
		if got, e := item.Build(v.x); got != v.b || e != api.OK {
			t.Errorf("%.40x %d, want %.40x", got, e, v.b)
		}
	}
}

// P2.1: Build, of what is not valid.
func TestBuildOfInvalid(t *testing.T) {
	for i, x := range invalid() {
		if got, e := item.Build(x); got != "" || e != api.ErrArg {
			t.Errorf("invalid %d: %.40x %d", i, got, e)
		}
	}
}
