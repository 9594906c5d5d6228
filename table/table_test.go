package table_test

import (
	"math"
	"runtime"
	"slices"
	"testing"
	"time"

	"dromond/api"
	"dromond/table"
)

// filled returns a table with that capacity, in which each key was put with its position as its value.
func filled[K comparable](t *testing.T, most int, keys ...K) *table.Table[K, int] {
	t.Helper()
	x := table.New[K, int](most)
	for i, k := range keys {
		if e := x.Put(k, i); e != api.OK {
			t.Fatalf("put %v: %d", k, e)
		}
	}
	return x
}

// has fails unless x has exactly these keys, in this order.
func has[K comparable, V any](t *testing.T, x *table.Table[K, V], want ...K) {
	t.Helper()
	if got := x.Keys(); !slices.Equal(got, want) || x.Len() != len(want) {
		t.Errorf("%v, %d of them, want %v", got, x.Len(), want)
	}
}

// gives fails unless x has that value of k.
func gives[K, V comparable](t *testing.T, x *table.Table[K, V], k K, want V) {
	t.Helper()
	if v, ok := x.Get(k); v != want || !ok {
		t.Errorf("value of %v: %v %t, want %v", k, v, ok, want)
	}
}

// lacks fails if x has k.
func lacks[K, V comparable](t *testing.T, x *table.Table[K, V], k K) {
	t.Helper()
	var none V
	if v, ok := x.Get(k); v != none || ok {
		t.Errorf("value of %v: %v %t", k, v, ok)
	}
}

// P3.1: New returns an empty table, with all of its capacity and no more.
func TestNew(t *testing.T) {
	for _, most := range []int{1, 2, 3, 32, 1000} {
		x := table.New[int, int](most)
		has(t, x)
		lacks(t, x, 0)
		for i := range most {
			if e := x.Put(i, i); e != api.OK {
				t.Fatalf("capacity %d: put %d: %d", most, i, e)
			}
		}
		if e := x.Put(most, 0); e != api.ErrFull || x.Len() != most {
			t.Errorf("capacity %d: %d, %d entries", most, e, x.Len())
		}
	}
}

// P3.1: a capacity of 0, or below, has no room for anything.
func TestNewOfNothing(t *testing.T) {
	for _, most := range []int{0, -1, -3, math.MinInt} {
		x := table.New[string, int](most)
		if e := x.Put("a", 1); e != api.ErrFull {
			t.Errorf("capacity %d: put: %d", most, e)
		}
		for range 3 {
			if k, gone := x.Push("a", 1); k != "" || gone {
				t.Errorf("capacity %d: push: %q %t", most, k, gone)
			}
		}
		if x.Drop("a") {
			t.Errorf("capacity %d: dropped", most)
		}
		lacks(t, x, "a")
		has(t, x)
	}
}

// P3.1, R1: a capacity that no memory has room for is only a limit.
func TestNewOfVeryMany(t *testing.T) {
	x := table.New[int, [1000]byte](math.MaxInt)
	for i := range 100 {
		if e := x.Put(i, [1000]byte{}); e != api.OK {
			t.Fatalf("put %d: %d", i, e)
		}
	}
	if k, gone := x.Push(100, [1000]byte{}); k != 0 || gone || x.Len() != 101 {
		t.Errorf("%d %t, %d entries", k, gone, x.Len())
	}
}

// P3.1: Put appends a key that is new.
func TestPut(t *testing.T) {
	x := filled(t, 4, "c", "a", "b")
	has(t, x, "c", "a", "b")
	gives(t, x, "c", 0)
	gives(t, x, "a", 1)
	gives(t, x, "b", 2)
}

// P3.1: Put replaces the value of a key in its position, also if the table is full.
func TestPutOfKnown(t *testing.T) {
	for _, most := range []int{3, 4} {
		x := filled(t, most, "c", "a", "b")
		for _, k := range []string{"a", "c", "b", "b"} {
			if e := x.Put(k, 70); e != api.OK {
				t.Errorf("put %s: %d", k, e)
			}
			gives(t, x, k, 70)
			has(t, x, "c", "a", "b")
		}
	}
}

// P3.1, R4: Put of a new key into a full table is ErrFull, and changes nothing.
func TestPutOfFull(t *testing.T) {
	x := filled(t, 2, "a", "b")
	for range 3 {
		if e := x.Put("c", 9); e != api.ErrFull {
			t.Errorf("%d", e)
		}
	}
	has(t, x, "a", "b")
	gives(t, x, "a", 0)
	gives(t, x, "b", 1)
	lacks(t, x, "c")
	if !x.Drop("a") || x.Put("c", 9) != api.OK || x.Put("d", 9) != api.ErrFull {
		t.Error("not as much room as was made")
	}
	has(t, x, "b", "c")
}

// P3.1: Get tells a zero value, and a zero key, from none.
func TestGet(t *testing.T) {
	x := table.New[string, string](3)
	lacks(t, x, "")
	x.Put("a", "")
	x.Put("", "empty")
	gives(t, x, "a", "")
	gives(t, x, "", "empty")
	lacks(t, x, "b")
	has(t, x, "a", "")
}

// P3.1: Drop, of each of three keys.
func TestDrop(t *testing.T) {
	for _, v := range []struct {
		k    string
		left []string
	}{
		{"a", []string{"b", "c"}},
		{"b", []string{"a", "c"}},
		{"c", []string{"a", "b"}},
	} {
		x := filled(t, 3, "a", "b", "c")
		if !x.Drop(v.k) {
			t.Errorf("%s was not there", v.k)
		}
		has(t, x, v.left...)
		lacks(t, x, v.k)
		for _, k := range v.left {
			gives(t, x, k, int(k[0]-'a'))
		}
		if x.Drop(v.k) {
			t.Errorf("%s was there twice", v.k)
		}
		has(t, x, v.left...)
	}
}

// P3.1: Drop of what is not there changes nothing.
func TestDropOfNone(t *testing.T) {
	x := filled(t, 3, "a", "b")
	if x.Drop("c") || x.Drop("") {
		t.Error("dropped")
	}
	has(t, x, "a", "b")
	if table.New[int, int](2).Drop(0) {
		t.Error("dropped from an empty table")
	}
}

// P3.1: a key that was removed and comes again is the newest one.
func TestPutAgain(t *testing.T) {
	x := filled(t, 3, "a", "b", "c")
	x.Drop("a")
	x.Put("a", 5)
	has(t, x, "b", "c", "a")
	gives(t, x, "a", 5)
	if k, gone := x.Push("d", 6); k != "b" || !gone {
		t.Errorf("%q %t", k, gone)
	}
	has(t, x, "c", "a", "d")
}

// P3.1: Push appends while there is room.
func TestPush(t *testing.T) {
	x := table.New[string, int](3)
	for i, k := range []string{"c", "a", "b"} {
		if k, gone := x.Push(k, i); k != "" || gone {
			t.Errorf("%q %t", k, gone)
		}
	}
	has(t, x, "c", "a", "b")
	gives(t, x, "c", 0)
	gives(t, x, "a", 1)
	gives(t, x, "b", 2)
}

// P3.1: Push of a new key removes the oldest entry of a full table, the one that came first.
func TestPushOfFull(t *testing.T) {
	x := filled(t, 3, "a", "b", "c")
	for _, v := range []struct {
		k, gone string
		left    []string
	}{
		{"d", "a", []string{"b", "c", "d"}},
		{"e", "b", []string{"c", "d", "e"}},
		{"a", "c", []string{"d", "e", "a"}},
		{"f", "d", []string{"e", "a", "f"}},
	} {
		if k, gone := x.Push(v.k, 50); k != v.gone || !gone {
			t.Errorf("push %s: %q %t, want %s", v.k, k, gone, v.gone)
		}
		has(t, x, v.left...)
		gives(t, x, v.k, 50)
		lacks(t, x, v.gone)
	}
}

// P3.1: Push of a key that is there replaces its value in its position: nothing is removed, and the key is not
// younger than before.
func TestPushOfKnown(t *testing.T) {
	for _, most := range []int{3, 4} {
		x := filled(t, most, "a", "b", "c")
		for _, k := range []string{"a", "b", "c", "a"} {
			if gone, ok := x.Push(k, 70); gone != "" || ok {
				t.Errorf("push %s: %q %t", k, gone, ok)
			}
			gives(t, x, k, 70)
			has(t, x, "a", "b", "c")
		}
		if most == 3 {
			if k, gone := x.Push("d", 1); k != "a" || !gone {
				t.Errorf("%q %t", k, gone)
			}
		}
	}
}

// P3.1: a key that is removed may be the zero key; true tells it.
func TestPushOutZero(t *testing.T) {
	x := filled(t, 1, 0)
	if k, gone := x.Push(7, 1); k != 0 || !gone {
		t.Errorf("%d %t", k, gone)
	}
	has(t, x, 7)
}

// P3.1: the chapter's example.
func TestExample(t *testing.T) {
	x := table.New[string, int](1)
	if k, gone := x.Push("a", 1); k != "" || gone {
		t.Errorf("%q %t", k, gone)
	}
	if k, gone := x.Push("b", 2); k != "a" || !gone {
		t.Errorf("%q %t", k, gone)
	}
	has(t, x, "b")
	gives(t, x, "b", 2)
}

// R5: Keys returns new memory.
func TestKeysAreNewMemory(t *testing.T) {
	x := filled(t, 3, "a", "b")
	first, second := x.Keys(), x.Keys()
	first[0] = "x"
	_ = append(first, "y")
	if second[0] != "a" {
		t.Error("two answers share memory")
	}
	has(t, x, "a", "b")
	x.Drop("a")
	x.Put("c", 1)
	if second[0] != "a" || second[1] != "b" {
		t.Errorf("changed with the table: %v", second)
	}
}

// R7: tables are independent of each other.
func TestTablesAreIndependent(t *testing.T) {
	x, y := filled(t, 2, "a", "b"), filled(t, 3, "a")
	x.Drop("a")
	x.Put("b", 9)
	y.Put("c", 5)
	has(t, x, "b")
	has(t, y, "a", "c")
	gives(t, y, "a", 0)
}

// P3.1: a pointer that is put is the one that is got.
func TestPointers(t *testing.T) {
	x := table.New[string, *[]int](1)
	p := &[]int{1}
	x.Put("a", p)
	*p = append(*p, 2)
	if got, ok := x.Get("a"); got != p || len(*got) != 2 || !ok {
		t.Errorf("%v %t", got, ok)
	}
	lacks(t, x, "b")
}

// id is a key that is compared as a whole.
type id struct {
	name string
	n    [2]uint64
}

// P3.1: keys are compared as a whole.
func TestStructKeys(t *testing.T) {
	a, b, c := id{"a", [2]uint64{1, 2}}, id{"a", [2]uint64{1, 3}}, id{"b", [2]uint64{1, 2}}
	x := filled(t, 3, a, b, c)
	has(t, x, a, b, c)
	if !x.Drop(id{"a", [2]uint64{1, 3}}) {
		t.Error("not there")
	}
	has(t, x, a, c)
	gives(t, x, c, 2)
}

// P3.1: keys without any bytes are all the same.
func TestEmptyKeys(t *testing.T) {
	x := filled(t, 1, struct{}{})
	if e := x.Put(struct{}{}, 5); e != api.OK {
		t.Errorf("%d", e)
	}
	gives(t, x, struct{}{}, 5)
	if _, gone := x.Push(struct{}{}, 6); gone || x.Len() != 1 || !x.Drop(struct{}{}) {
		t.Error("a second one")
	}
}

// P3.1, P3.2: a key that differs from itself is there, but is never found; it takes room, and makes room.
func TestKeysThatDifferFromThemselves(t *testing.T) {
	nan := math.NaN()
	x := filled(t, 3, nan, 1, nan)
	if e := x.Put(nan, 3); e != api.ErrFull || x.Len() != 3 {
		t.Errorf("%d, %d entries", e, x.Len())
	}
	lacks(t, x, nan)
	if x.Drop(nan) {
		t.Error("dropped")
	}
	for i := range 50 {
		k, gone := x.Push(nan, i)
		if !gone || (k == k) != (i == 1) || x.Len() != 3 {
			t.Errorf("push %d: %v %t, %d entries", i, k, gone, x.Len())
		}
	}
	for _, k := range x.Keys() {
		if k == k {
			t.Errorf("%v", k)
		}
	}
}

// P3.1: a key that is equal to another one has its entry; the entry keeps the key that came first.
func TestNegativeZero(t *testing.T) {
	x := filled(t, 1, 0.0)
	if e := x.Put(math.Copysign(0, -1), 7); e != api.OK {
		t.Errorf("%d", e)
	}
	gives(t, x, 0, 7)
	if math.Signbit(x.Keys()[0]) {
		t.Error("another key")
	}
}

// R1: a key that cannot be compared is equal to none; nothing panics.
func TestKeysThatCannotBeCompared(t *testing.T) {
	type pair struct{ a, b any }
	for i, bad := range []any{[]int{1}, map[int]int{}, func() {}, pair{1, []int{1}}, [1]any{[]int{1}}} {
		x := filled[any](t, 4, bad, 1, bad)
		lacks(t, x, bad)
		if x.Drop(bad) || x.Put(bad, 3) != api.OK || x.Put(bad, 4) != api.ErrFull || x.Len() != 4 {
			t.Errorf("key %d: %d entries", i, x.Len())
		}
		gives[any](t, x, 1, 1)
		if k, gone := x.Push(bad, 5); k == nil || !gone || x.Len() != 4 {
			t.Errorf("key %d: %v %t", i, k, gone)
		}
		if k, gone := x.Push(bad, 6); k != 1 || !gone || x.Len() != 4 {
			t.Errorf("key %d: %v %t", i, k, gone)
		}
		if k, gone := x.Push("a", 7); k == nil || !gone || !x.Drop("a") || x.Len() != 3 {
			t.Errorf("key %d: %v %t", i, k, gone)
		}
	}
}

// P3.1: keys of several types in one table.
func TestInterfaceKeys(t *testing.T) {
	x := filled[any](t, 5, 1, int64(1), "1", nil, id{name: "1"})
	gives[any](t, x, 1, 0)
	gives[any](t, x, int64(1), 1)
	gives[any](t, x, "1", 2)
	gives[any](t, x, nil, 3)
	gives[any](t, x, id{name: "1"}, 4)
	lacks[any](t, x, int32(1))
}

// What is removed is not kept.
func TestRemovedIsFreed(t *testing.T) {
	x := table.New[int, *[1 << 20]byte](2)
	freed := make(chan int, 3)
	for i := range 3 {
		v := new([1 << 20]byte)
		runtime.AddCleanup(v, func(i int) { freed <- i }, i)
		x.Push(i, v)
	}
	x.Drop(2)
	runtime.GC()
	for range 2 {
		select {
		case i := <-freed:
			if i == 1 {
				t.Error("the one that is there was freed")
			}
		case <-time.After(5 * time.Second):
			t.Fatal("what was removed is kept")
		}
	}
	has(t, x, 1)
	runtime.KeepAlive(x)
}
