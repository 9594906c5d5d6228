package eid_test

import (
	"math"
	"math/rand"
	"strings"
	"testing"

	"dromond/api"
	"dromond/eid"
)

// nodeOf returns the node of e, which is valid, by a model of its own.
func nodeOf(e api.EID) api.EID {
	if e.Scheme == 2 {
		return api.EID{Scheme: 2, Node: e.Node}
	}
	if e.Name == "none" {
		return e
	}
	return api.EID{Scheme: 1, Name: "//" + strings.Split(e.Name, "/")[2] + "/"}
}

// P10.1: Node, for every kind of name.
func TestNode(t *testing.T) {
	for _, e := range right() {
		if n, err := eid.Node(e); n != nodeOf(e) || err != api.OK {
			t.Fatalf("%#v: %#v, error %d", e, n, err)
		}
	}
	for _, v := range []struct{ e, want api.EID }{
		{eid.None(), eid.None()},
		{api.EID{Scheme: 1, Name: "//a/x"}, api.EID{Scheme: 1, Name: "//a/"}},
		{api.EID{Scheme: 1, Name: "//a/"}, api.EID{Scheme: 1, Name: "//a/"}},
		{api.EID{Scheme: 1, Name: "//a.b-0/x/y//z/"}, api.EID{Scheme: 1, Name: "//a.b-0/"}},
		{api.EID{Scheme: 1, Name: "//none/none"}, api.EID{Scheme: 1, Name: "//none/"}},
		{api.EID{Scheme: 2, Node: 7, Service: 1}, api.EID{Scheme: 2, Node: 7}},
		{api.EID{Scheme: 2, Node: 7}, api.EID{Scheme: 2, Node: 7}},
		{api.EID{Scheme: 2, Service: 5}, api.EID{Scheme: 2}},
		{api.EID{Scheme: 2, Node: 4294967295, Service: 4294967295}, api.EID{Scheme: 2, Node: 4294967295}},
	} {
		if n, err := eid.Node(v.e); n != v.want || err != api.OK {
			t.Errorf("%#v: %#v, error %d", v.e, n, err)
		}
	}
}

// P10.3: a node is valid, and its own node.
func TestNodeOfNode(t *testing.T) {
	r := rand.New(rand.NewSource(4))
	l := right()
	for range 100000 {
		l = append(l, random(r))
	}
	for _, e := range l {
		n, e1 := eid.Node(e)
		again, e2 := eid.Node(n)
		if !eid.Right(n) || again != n || e1 != api.OK || e2 != api.OK {
			t.Fatalf("%#v: %#v, %#v, errors %d %d", e, n, again, e1, e2)
		}
	}
}

// few are names, valid and not, that have something in common.
var few = []api.EID{
	{}, {Scheme: 1}, {Scheme: 1, Name: "none"}, {Scheme: 1, Name: "//a/"}, {Scheme: 1, Name: "//a/x"},
	{Scheme: 1, Name: "//a/y"}, {Scheme: 1, Name: "//a/x/y"}, {Scheme: 1, Name: "//a//"},
	{Scheme: 1, Name: "//ab/"}, {Scheme: 1, Name: "//ab/x"},
	{Scheme: 1, Name: "//b/x"}, {Scheme: 1, Name: "//none/"}, {Scheme: 1, Name: "//none/none"}, {Scheme: 1, Name: "//7/1"},
	{Scheme: 1, Name: "//a/" + strings.Repeat("s", 56)}, {Scheme: 2}, {Scheme: 2, Service: 1}, {Scheme: 2, Service: 7},
	{Scheme: 2, Node: 1}, {Scheme: 2, Node: 7}, {Scheme: 2, Node: 7, Service: 1}, {Scheme: 2, Node: 1, Service: 7},
	{Scheme: 2, Node: 7, Service: 7}, {Scheme: 2, Node: 4294967295, Service: 4294967295}, {Scheme: 2, Node: 4294967295},
	// None of these is valid.
	{Scheme: 1, Name: "//a"}, {Scheme: 1, Name: "//a/ "}, {Scheme: 1, Name: "//A/"}, {Scheme: 1, Name: "//a/x", Node: 1},
	{Scheme: 1, Name: "//a/x", Service: 1}, {Scheme: 1, Name: "none", Node: 1}, {Scheme: 1, Name: "None"},
	{Scheme: 1, Name: "//a/" + strings.Repeat("s", 57)}, {Scheme: 2, Name: "none"}, {Scheme: 2, Name: "//a/x"},
	{Scheme: 2, Node: 7, Service: 4294967296}, {Scheme: 2, Node: 4294967296}, {Scheme: 2, Node: 7, Service: 1, Name: "x"},
	{Scheme: 0, Node: 7, Service: 1}, {Scheme: 3, Node: 7, Service: 1}, {Scheme: 0, Name: "//a/x"},
	{Scheme: 3, Name: "none"},
}

// matches reports what Match returns, by a model of its own.
func matches(p api.Pattern, e api.EID) bool {
	switch {
	case !permitted(e):
		return false
	case p.Kind == 0:
		return true
	case p.Kind == 1:
		return p.E.Scheme == e.Scheme && p.E.Name == e.Name && p.E.Node == e.Node && p.E.Service == e.Service
	case p.Kind == 2:
		return permitted(p.E) && nodeOf(p.E) == nodeOf(e)
	}
	return false
}

// P10.2: Match, for every Kind and numbers near them, and every pair of names that have something in common.
func TestMatch(t *testing.T) {
	kinds := []int{
		0, 1, 2, 3, 4, 5, 8, -1, -2, 16, 17, 18, 256, 257, 258, 1 << 16, 1<<16 + 1, 1 << 32, 1<<32 + 1, 1<<32 + 2,
		math.MinInt, math.MinInt + 1, math.MinInt + 2, math.MaxInt,
	}
	count := map[int]int{}
	for _, kind := range kinds {
		for _, a := range few {
			for _, b := range few {
				p := api.Pattern{Kind: kind, E: a}
				want := matches(p, b)
				if got := eid.Match(p, b); got != want {
					t.Fatalf("%#v, %#v: %v, want %v", p, b, got, want)
				}
				if want {
					count[kind]++
				}
			}
		}
	}
	if len(count) != 3 || count[0] != 23*len(few) || count[1] != 23 || count[2] <= count[1] {
		t.Errorf("true by Kind: %v", count)
	}
}

// P10.2: the Kinds, one by one.
func TestMatchByKind(t *testing.T) {
	x, y, a := api.EID{Scheme: 1, Name: "//a/x"}, api.EID{Scheme: 1, Name: "//a/y"}, api.EID{Scheme: 1, Name: "//a/"}
	one, two := api.EID{Scheme: 2, Node: 7, Service: 1}, api.EID{Scheme: 2, Node: 7, Service: 2}
	wrong := api.EID{Scheme: 1, Name: "//a/ "}
	for _, v := range []struct {
		kind int
		p, e api.EID
		want bool
	}{
		{0, x, one, true}, {0, wrong, x, true}, {0, api.EID{}, eid.None(), true}, {0, x, wrong, false},
		{0, x, api.EID{}, false},
		{1, x, x, true}, {1, x, y, false}, {1, a, x, false}, {1, x, a, false}, {1, one, one, true}, {1, one, two, false},
		{1, wrong, wrong, false}, {1, api.EID{}, api.EID{}, false}, {1, eid.None(), eid.None(), true},
		{2, x, x, true}, {2, x, y, true}, {2, a, x, true}, {2, x, a, true}, {2, one, two, true}, {2, one, x, false},
		{2, wrong, x, false}, {2, x, wrong, false}, {2, wrong, wrong, false}, {2, api.EID{}, api.EID{}, false},
		{2, eid.None(), eid.None(), true}, {2, eid.None(), x, false}, {2, x, eid.None(), false}, {2, api.EID{}, x, false},
		{3, x, x, false}, {-1, x, x, false},
	} {
		if got := eid.Match(api.Pattern{Kind: v.kind, E: v.p}, v.e); got != v.want {
			t.Errorf("Kind %d, %#v, %#v: %v", v.kind, v.p, v.e, got)
		}
	}
}

// P10.2: Match agrees with the model for every kind of name.
func TestMatchOfAll(t *testing.T) {
	for _, e := range all() {
		for kind := -1; kind <= 3; kind++ {
			near := e
			near.Service ^= 1
			for _, q := range []api.EID{e, near, {}} {
				if p := (api.Pattern{Kind: kind, E: q}); eid.Match(p, e) != matches(p, e) {
					t.Fatalf("%#v, %#v: not %v", p, e, matches(p, e))
				}
			}
		}
	}
}
