package item_test

import (
	"reflect"
	"strings"
	"testing"

	"dromond/api"
	"dromond/item"
)

// deep is the heads of eight arrays, so that what follows is on the ninth level.
const deep = "\x81\x81\x81\x81\x81\x81\x81\x81"

// many is a thousand items.
var many = strings.Repeat("\x00", 1000)

// refused are texts that are no item's, each with the offset of its first error.
var refused = []struct {
	name string
	b    string
	at   int
	e    api.Errno
}{
	{"nothing", "", 0, api.ErrForm},

	{"a cut number", "\x18", 0, api.ErrForm},
	{"a cut number of two bytes", "\x19\x01", 0, api.ErrForm},
	{"a cut number of eight bytes", "\x1b\x01\x00\x00\x00\x00\x00\x00", 0, api.ErrForm},
	{"a number that is too long", "\x18\x17", 0, api.ErrForm},
	{"a number that is too long by two bytes", "\x19\x00\x01", 0, api.ErrForm},
	{"lower bits of 28", "\x1c", 0, api.ErrForm},
	{"lower bits of 30", "\x9e", 0, api.ErrForm},
	{"an open number", "\x1f", 0, api.ErrForm},
	{"a bad head inside", "\x82\x01\x18\x00", 2, api.ErrForm},
	{"a bad head in an open array", "\x9f\x01\x1d\xff", 2, api.ErrForm},
	{"a missing element", "\x82\x01", 2, api.ErrForm},
	{"a missing inner element", "\x82\x01\x82\x02", 4, api.ErrForm},
	{"a missing break", "\x9f\x01", 2, api.ErrForm},
	{"a missing break at once", "\x9f", 1, api.ErrForm},
	{"a missing outer break", "\x9f\x9f\xff", 3, api.ErrForm},

	{"a negative number", "\x20", 0, api.ErrForm},
	{"a map", "\xa0", 0, api.ErrForm},
	{"an open map", "\xbf\xff", 0, api.ErrForm},
	{"a label", "\xc1\x00", 0, api.ErrForm},
	{"false", "\xf4", 0, api.ErrForm},
	{"a float", "\xf9\x3c\x00", 0, api.ErrForm},
	{"a break alone", "\xff", 0, api.ErrForm},
	{"a break in an array that is not open", "\x81\xff", 1, api.ErrForm},
	{"a break in an inner array that is not open", "\x9f\x82\x00\xff\xff", 3, api.ErrForm},
	{"a second break", "\x9f\xff\xff", 2, api.ErrForm},
	{"a map inside", "\x83\x01\x02\xa0", 3, api.ErrForm},
	{"a negative number in an open array", "\x9f\x20\xff", 1, api.ErrForm},

	{"an open byte string", "\x5f\x41a\xff", 0, api.ErrForm},
	{"an open text string", "\x7f\x61a\xff", 0, api.ErrForm},
	{"an open byte string inside", "\x82\x00\x5f\xff", 2, api.ErrForm},
	{"a cut byte string", "\x42a", 0, api.ErrForm},
	{"a cut text string", "\x62a", 0, api.ErrForm},
	{"a cut byte string inside", "\x82\x01\x42a", 2, api.ErrForm},
	{"a byte string without end", "\x5b\xff\xff\xff\xff\xff\xff\xff\xff", 0, api.ErrForm},
	{"a text string without end", "\x7b\xff\xff\xff\xff\xff\xff\xff\xff", 0, api.ErrForm},

	{"a number too deep", deep + "\x00", 8, api.ErrDeep},
	{"a byte string too deep", deep + "\x40", 8, api.ErrDeep},
	{"a text string too deep", deep + "\x60", 8, api.ErrDeep},
	{"an array too deep", deep + "\x80", 8, api.ErrDeep},
	{"an open array too deep", deep + "\x9f\xff", 8, api.ErrDeep},
	{"too deep in open arrays", strings.Repeat("\x9f", 8) + "\x00" + strings.Repeat("\xff", 8), 8, api.ErrDeep},
	{"too deep behind another", "\x82\x01" + deep[1:] + "\x00", 9, api.ErrDeep},
	{"arrays without end", strings.Repeat("\x81", 100000), 8, api.ErrDeep},
	{"open arrays without end", strings.Repeat("\x9f", 100000), 8, api.ErrDeep},

	{"nothing on the ninth level", deep, 8, api.ErrForm},
	{"a bad head ahead of too deep", deep + "\x18\x00", 8, api.ErrForm},
	{"another type ahead of too deep", deep + "\x20", 8, api.ErrForm},
	{"a break ahead of too deep", deep + "\xff", 8, api.ErrForm},
	{"too deep ahead of a cut string", deep + "\x42a", 8, api.ErrDeep},
	{"too deep ahead of an open string", deep + "\x5f", 8, api.ErrDeep},
	{"too deep ahead of too long", deep + "\x99\x03\xe9", 8, api.ErrDeep},

	{"1001 elements", "\x99\x03\xe9" + many + "\x00", 0, api.ErrLong},
	{"1001 elements that are missing", "\x99\x03\xe9", 0, api.ErrLong},
	{"elements without end", "\x9b\xff\xff\xff\xff\xff\xff\xff\xff", 0, api.ErrLong},
	{"1001 elements inside", "\x82\x00\x99\x03\xe9", 2, api.ErrLong},
	{"1001 elements on the eighth level", deep[1:] + "\x99\x03\xe9", 7, api.ErrLong},
	{"1001 in more bytes than it needs", "\x9a\x00\x00\x03\xe9", 0, api.ErrForm},
	{"1000 elements that are missing", "\x99\x03\xe8", 3, api.ErrForm},
	{"999 elements of 1000", "\x99\x03\xe8" + many[:999], 1002, api.ErrForm},

	{"an open array's element 1001", "\x9f" + many + "\x00\xff", 1001, api.ErrLong},
	{"an open array of 1000 that is cut", "\x9f" + many, 1001, api.ErrLong},
	{"an open array of 1000 and a bad head", "\x9f" + many + "\x1c\xff", 1001, api.ErrLong},
	{"an open array of 1000 and another type", "\x9f" + many + "\xa0\xff", 1001, api.ErrLong},
	{"an open array of 999 that is cut", "\x9f" + many[:999], 1000, api.ErrForm},
	{"an inner open array's element 1001", "\x82\x00\x9f" + many + "\x00\xff", 1003, api.ErrLong},
	{"an element of an open array too deep", deep[1:] + "\x9f\x00\xff", 8, api.ErrDeep},

	{"two items", "\x01\x02", 1, api.ErrForm},
	{"a zero byte at the end", "\x80\x00", 1, api.ErrForm},
	{"a bad head at the end", "\x41a\x1c", 2, api.ErrForm},
	{"too long at the end", "\x61a\x99\x03\xe9", 2, api.ErrForm},
	{"bytes behind a break", "\x9f\x01\xff\x00", 3, api.ErrForm},
	{"bytes behind a deep item", deep[1:] + "\x80" + "\x00", 8, api.ErrForm},

	{"the first of two errors", "\x82\x42a", 1, api.ErrForm},
	{"the first of three errors", "\x83" + deep[1:] + "\x00\xff\x99\x03\xe9", 8, api.ErrDeep},
	{"too long ahead of a bad head", "\x82\x99\x03\xe9\x1c", 1, api.ErrLong},
}

// P2.2: the offset and the error of all that is refused, with the zero item.
func TestParseOfInvalid(t *testing.T) {
	for _, v := range refused {
		x, at, e := item.Parse(v.b)
		if at != v.at || e != v.e {
			t.Errorf("%s: %d %d, want %d %d", v.name, at, e, v.at, v.e)
		}
		if x.Kind != 0 || x.N != 0 || x.S != "" || len(x.L) != 0 || x.Open {
			t.Errorf("%s: not the zero item: %+v", v.name, x)
		}
	}
}

// P2.2: the item of all that is parsed.
func TestParse(t *testing.T) {
	for _, v := range valid() {
		x, at, e := item.Parse(v.b)
		if at != -1 || e != api.OK {
			t.Errorf("%.40x: %d %d", v.b, at, e)
		}
		if !item.Same(x, v.x) {
			t.Errorf("%.40x: another item", v.b)
		}
	}
}

// P2.2: each field of an item, and those that its kind does not use.
func TestParseFields(t *testing.T) {
	got, at, e := item.Parse("\x84\x18\x64\x42bb\x9f\x62tt\xff\x00")
	want := item.Item{Kind: 4, L: []item.Item{
		{Kind: 0, N: 100},
		{Kind: 2, S: "bb"},
		{Kind: 4, Open: true, L: []item.Item{{Kind: 3, S: "tt"}}},
		{Kind: 0},
	}}
	if !reflect.DeepEqual(got, want) || at != -1 || e != api.OK {
		t.Errorf("%+v %d %d", got, at, e)
	}
}

// P2.2: an item that is cut anywhere is refused, at an offset inside of it.
func TestParseOfCut(t *testing.T) {
	for _, v := range valid() {
		for n := range len(v.b) {
			x, at, e := item.Parse(v.b[:n])
			if e == api.OK || at < 0 || at > n || x.Kind != 0 || len(x.L) != 0 {
				t.Fatalf("%.40x: %d %d", v.b[:n], at, e)
			}
		}
	}
}

// R5: the elements of what is parsed twice are not the same memory.
func TestParseIsNewMemory(t *testing.T) {
	const b = "\x82\x81\x01\x81\x01"
	x, _, _ := item.Parse(b)
	y, _, _ := item.Parse(b)
	x.L[0].L[0] = item.Num(9)
	x.L[1] = item.Num(9)
	if y.L[0].L[0].N != 1 || y.L[1].Kind != 4 {
		t.Errorf("%+v", y)
	}
}
