package item_test

import (
	"runtime/debug"
	"testing"

	"dromond/item"
)

// memory returns the addresses of all items in x, on every level, with the spare capacity of its lists.
func memory(x item.Item) map[*item.Item]bool {
	found := map[*item.Item]bool{}
	work := [][]item.Item{x.L}
	for len(work) > 0 {
		l := work[len(work)-1]
		work = work[:len(work)-1]
		l = l[:cap(l)]
		for i := range l {
			if !found[&l[i]] {
				found[&l[i]] = true
				work = append(work, l[i].L)
			}
		}
	}
	return found
}

// shared reports whether a and b have memory in common.
func shared(a, b item.Item) bool {
	found := memory(a)
	for p := range memory(b) {
		if found[p] {
			return true
		}
	}
	return false
}

// overlapping reports whether two of the lists in x, which is not endless, have memory in common.
func overlapping(x item.Item) bool {
	found := map[*item.Item]bool{}
	work := [][]item.Item{x.L}
	for len(work) > 0 {
		l := work[len(work)-1]
		work = work[:len(work)-1]
		l = l[:cap(l)]
		for i := range l {
			if found[&l[i]] {
				return true
			}
			found[&l[i]] = true
			work = append(work, l[i].L)
		}
	}
	return false
}

// alike reports whether a and b are equal down to that level, whether they are valid or not.
func alike(a, b item.Item, levels int) bool {
	if a.Kind != b.Kind || a.N != b.N || a.S != b.S || a.Open != b.Open || len(a.L) != len(b.L) {
		return false
	}
	for i := range a.L {
		if levels > 1 && !alike(a.L[i], b.L[i], levels-1) {
			return false
		}
	}
	return true
}

// tower returns an item of that many levels, with a number beside each array in it.
func tower(levels int) item.Item {
	x := item.Num(1)
	for i := range levels - 1 {
		l := append(make([]item.Item, 0, 4), x, item.Num(uint64(i)))
		x = item.Item{Kind: 4, L: l, Open: i%2 == 1}
	}
	return x
}

// doubled returns an array of that many levels; on each one two elements are the same memory.
func doubled(levels int) item.Item {
	x := item.Num(1)
	for range levels - 1 {
		x = item.Item{Kind: 4, L: []item.Item{x, x}}
	}
	return x
}

// ring returns an array in a circle of that many arrays, each of which contains the next one twice and a number.
func ring(n int) item.Item {
	l := make([]item.Item, n)
	for i := range l {
		l[i] = item.Item{Kind: 4, L: make([]item.Item, 3)}
	}
	for i := range l {
		next := l[(i+1)%n]
		copy(l[i].L, []item.Item{next, item.Num(uint64(i)), next})
	}
	return l[0]
}

// knot returns an array of n arrays, each of which contains all of them.
func knot(n int) item.Item {
	l := make([]item.Item, n)
	for i := range l {
		l[i] = item.Item{Kind: 4, L: make([]item.Item, n)}
	}
	for i := range l {
		copy(l[i].L, l)
	}
	return item.Item{Kind: 4, L: l}
}

// pieces returns an array whose elements contain pieces of its own list, which overlap.
func pieces(n int) item.Item {
	l := make([]item.Item, n)
	for i := range l {
		l[i] = item.Item{Kind: 4, L: l[i:]}
	}
	l[0].L = l[:n-1]
	return item.Item{Kind: 4, L: l}
}

// P2.1, R5: however many levels an element has, the array shares no memory with it, on any level.
func TestListIsNewMemoryOnEveryLevel(t *testing.T) {
	for levels := 1; levels <= 60; levels++ {
		x := tower(levels)
		got := item.List(x, x)
		if shared(got, x) {
			t.Errorf("%d levels: memory of the argument", levels)
		}
		if overlapping(got) {
			t.Errorf("%d levels: two lists share memory", levels)
		}
		if !alike(x, tower(levels), 61) || !alike(got, item.Item{Kind: 4, L: []item.Item{x, x}}, 61) {
			t.Errorf("%d levels: %+v", levels, got)
		}
	}
}

// P2.1, R5: a list that is passed as it is is copied as well, with its spare capacity untouched.
func TestListOfList(t *testing.T) {
	l := append(make([]item.Item, 0, 9), tower(12), item.Num(3), doubled(12))
	got := item.List(l...)
	if shared(got, item.Item{Kind: 4, L: l}) || overlapping(got) {
		t.Error("shared memory")
	}
	if !alike(got, item.Item{Kind: 4, L: l}, 20) {
		t.Error("another array")
	}
	for _, x := range l[3:9] {
		if x.Kind != 0 || x.N != 0 || x.S != "" || x.L != nil || x.Open {
			t.Errorf("the spare capacity was modified: %+v", x)
		}
	}
}

// P2.1, R5: after the call neither changes with the other, on any level.
func TestListChangesAlone(t *testing.T) {
	for level := 1; level < 30; level++ {
		x := tower(30)
		got := item.List(x)
		ours, theirs := got.L[0], x
		for range level - 1 {
			ours, theirs = ours.L[0], theirs.L[0]
		}
		was := ours.L[1].N
		theirs.L[1].N = 1000
		if ours.L[1].N != was {
			t.Errorf("level %d: changed with the argument", level)
		}
		ours.L[1].N = 2000
		if theirs.L[1].N != 1000 {
			t.Errorf("level %d: the argument has changed", level)
		}
	}
}

// R1, R5: an element may have more levels than calls have room for; little room shows it with fewer levels.
func TestListOfManyLevels(t *testing.T) {
	defer debug.SetMaxStack(debug.SetMaxStack(4 << 20))
	const levels = 200000
	x := nest(levels-1, item.Num(1))
	got := item.List(x).L[0]
	for level := 1; level < levels; level++ {
		if len(got.L) != 1 || &got.L[0] == &x.L[0] {
			t.Fatalf("level %d: %d elements, or memory of the argument", level, len(got.L))
		}
		got, x = got.L[0], x.L[0]
	}
	if got.Kind != 0 || got.N != 1 || len(got.L) != 0 {
		t.Errorf("%+v", got)
	}
}

// R1, R5: List ends for elements that contain themselves, and shares no memory with them either.
func TestListOfEndless(t *testing.T) {
	for name, x := range map[string]item.Item{
		"one":     endless(1),
		"two":     endless(2),
		"many":    endless(1000),
		"deep":    nest(50, endless(3)),
		"ring":    ring(2),
		"circle":  ring(1000),
		"knot":    knot(3),
		"knots":   knot(100),
		"pieces":  pieces(5),
		"piece":   pieces(200),
		"invalid": {Kind: 9, N: 1, S: "s", L: endless(2).L, Open: true},
	} {
		levels := 9
		if len(x.L) > 3 {
			levels = 2
		}
		for _, got := range []item.Item{item.List(x), item.List(item.Num(1), nest(9, x)), item.List(x.L...)} {
			if shared(got, x) {
				t.Errorf("%s: memory of the argument", name)
			}
			if item.Right(got) {
				t.Errorf("%s: right", name)
			}
		}
		if !alike(item.List(x).L[0], x, levels) || !alike(item.Item{Kind: 4, L: item.List(x.L...).L}, item.Item{Kind: 4, L: x.L}, levels) {
			t.Errorf("%s: another array", name)
		}
	}
}

// R5: an endless element beside others, or in them, takes nothing from them: their lists are still copied one by one.
func TestListBesideEndless(t *testing.T) {
	y := tower(12)
	loop := endless(2)
	loop.L[1] = item.Item{Kind: 4, L: []item.Item{y, y}}
	got := item.List(y, loop, y)
	if shared(got, item.List(loop)) || shared(got, loop) {
		t.Error("memory of the argument")
	}
	inner := got.L[1].L[1]
	if overlapping(item.Item{Kind: 4, L: []item.Item{got.L[0], inner, got.L[2]}}) {
		t.Error("two lists share memory")
	}
	for _, x := range []item.Item{got.L[0], inner.L[0], inner.L[1], got.L[2]} {
		if !alike(x, y, 12) {
			t.Errorf("another item: %+v", x)
		}
	}
}

// R5: an element whose lists are the same memory is copied list by list.
func TestListOfDoubled(t *testing.T) {
	x := doubled(16)
	got := item.List(x)
	if shared(got, x) || overlapping(got) {
		t.Error("shared memory")
	}
	if !alike(got.L[0], x, 16) {
		t.Error("another array")
	}
}

// R1, R5: List ends for an element of more items than an answer can have, and shares no memory with it.
func TestListOfTooMany(t *testing.T) {
	wide := item.Num(1)
	for range 7 {
		l := make([]item.Item, 1000)
		for i := range l {
			l[i] = wide
		}
		wide = item.Item{Kind: 4, L: l}
	}
	loop := endless(2)
	loop.L[1] = doubled(40)
	// 2 to the power of 64 items, which a number of 64 bits cannot count.
	wrapped := item.Item{Kind: 4, L: []item.Item{doubled(65), item.Num(1)}}
	for _, x := range []item.Item{doubled(40), doubled(1000), wide, loop, wrapped} {
		got := item.List(x)
		if shared(got, x) {
			t.Error("memory of the argument")
		}
		if len(got.L) != 1 || !alike(got.L[0], x, 2) {
			t.Error("another array")
		}
	}
}
