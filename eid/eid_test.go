package eid_test

import (
	"math"
	"math/rand"
	"regexp"
	"strings"
	"testing"

	"dromond/api"
	"dromond/eid"
)

// form is that of a Name of scheme 1, apart from its length: a model of its own.
var form = regexp.MustCompile(`\A(none|//[a-z0-9.\-]+/[\x21-\x7e]*)\z`)

// permitted reports whether e is valid, by the model.
func permitted(e api.EID) bool {
	switch e.Scheme {
	case 1:
		return form.MatchString(e.Name) && len(e.Name) <= 60 && e.Node == 0 && e.Service == 0
	case 2:
		return e.Name == "" && e.Node <= 4294967295 && e.Service <= 4294967295
	}
	return false
}

// schemes are the two schemes, numbers near them, and numbers that are one of them in fewer bits.
var schemes = []int{
	1, 2, 0, -1, -2, 3, 4, 5, 6, 7, 16, 17, 18, 255, 257, 258, 1<<16 + 1, 1<<16 + 2, 1<<32 + 1, 1<<32 + 2,
	math.MinInt, math.MinInt + 1, math.MinInt + 2, math.MaxInt, math.MaxInt32,
}

// numbers are values of Node and Service, some of them too great.
var numbers = []uint64{
	0, 1, 2, 7, 9, 10, 23, 24, 99, 100, 101, 255, 256, 65535, 65536, 999999, 1000000, 1<<31 - 1, 1 << 31,
	4294967294, 4294967295, 4294967296, 4294967297, 9999999999, 1 << 40, 1<<63 - 1, 1 << 63, 1<<63 + 1,
	math.MaxUint64 - 1, math.MaxUint64,
}

// names returns values of Name: first 25 that are permitted, then others.
func names() []string {
	l := []string{
		"none", "//a/", "//a/x", "//none/", "//none/none", "//-/", "//./", "//0/", "//9/z", "//z/9", "//a.b-c.0/x/y//z/",
		"//a//", "//a///", "//a/!", "//a/~", "//a/none", "//a/dtn:none", "//a/ipn:1.2", "//a/?#[]%20", "//node/service",
		"//" + strings.Repeat("n", 57) + "/", "//" + strings.Repeat("n", 56) + "/", "//a/" + strings.Repeat("s", 56),
		"//a/" + strings.Repeat("s", 55), "//a/" + strings.Repeat("/", 56),
		// None of these is permitted.
		"", "n", "non", "None", "NONE", "none/", "nonee", " none", "none ", "/none", "//none", "/", "//", "///", "////",
		"///x", "///a/", "//a", "/a/", "/a/x", "a/", "a", "a//b/", "//a b/", "//A/", "//aB/x", "//a_/", "//a:/", "//a@/",
		"//a`/", "//a{/", "//a,/", "//é/", "//\xff/", "//a/ ", "//a/x ", "//a/\x7f", "//a/\x00", "//a/\n", "//a/x\n",
		"//a/é", "//a/\xff", "//a/x\x80", "//a/\u0161", "//\u0161/", "\u012f\u012f\u0161/", "\u012f/a/", "/\u012fa/",
		"//a\u012f", "//a\u012fx", "none\x00", "\x00none", "//a/\ufffd", " //a/", "dtn://a/", "dtn:none", "//a/\u2028",
		"//" + strings.Repeat("n", 58) + "/", "//a/" + strings.Repeat("s", 57), "//a/" + strings.Repeat("s", 5000),
		"//a/" + strings.Repeat("é", 28), "//" + strings.Repeat("n", 60), strings.Repeat("/", 60), "//a/\xe2\x82",
	}
	return l
}

// random returns some valid name.
func random(r *rand.Rand) api.EID {
	if r.Intn(2) == 0 {
		return api.EID{Scheme: 2, Node: uint64(r.Uint32() >> r.Intn(32)), Service: uint64(r.Uint32() >> r.Intn(32))}
	}
	if r.Intn(20) == 0 {
		return api.EID{Scheme: 1, Name: "none"}
	}
	node := make([]byte, 1+r.Intn(20))
	for i := range node {
		node[i] = "abcdefghijklmnopqrstuvwxyz0123456789.-"[r.Intn(38)]
	}
	service := make([]byte, r.Intn(60-3-len(node)+1))
	for i := range service {
		service[i] = byte(33 + r.Intn(94))
	}
	return api.EID{Scheme: 1, Name: "//" + string(node) + "/" + string(service)}
}

// all returns names of every kind, valid and not: each Name, each Node and each Service with each scheme.
func all() []api.EID {
	var l []api.EID
	for _, s := range schemes {
		for _, name := range names() {
			l = append(l, api.EID{Scheme: s, Name: name}, api.EID{Scheme: s, Name: name, Node: 1},
				api.EID{Scheme: s, Name: name, Service: 1}, api.EID{Scheme: s, Name: name, Node: 1 << 63, Service: 1 << 32})
		}
		for _, n := range numbers {
			for _, m := range numbers {
				l = append(l, api.EID{Scheme: s, Node: n, Service: m})
			}
		}
	}
	return l
}

// right returns those of all that are valid, by the model.
func right() []api.EID {
	var l []api.EID
	for _, e := range all() {
		if permitted(e) {
			l = append(l, e)
		}
	}
	return l
}

// texts calls do with every text of at most that many letters.
func texts(letters string, most int, do func(string)) {
	do("")
	if most == 0 {
		return
	}
	for i := range len(letters) {
		texts(letters, most-1, func(s string) { do(letters[i:i+1] + s) })
	}
}

// valid fails unless Right agrees with the model.
func valid(t *testing.T, e api.EID) bool {
	t.Helper()
	want := permitted(e)
	if got := eid.Right(e); got != want {
		t.Fatalf("%#v: %v, want %v", e, got, want)
	}
	return want
}

// P10.1: Right, for each Name, Node and Service with each scheme.
func TestRight(t *testing.T) {
	count := 0
	for _, e := range all() {
		if valid(t, e) {
			count++
		}
	}
	// 25 Names; 21 Nodes with 21 Services each, and three pairs of them once more with the Name "".
	if count != 25+21*21+3 {
		t.Errorf("%d are valid", count)
	}
}

// P10.1: Right, for every Name of at most seven letters.
func TestRightOfShortNames(t *testing.T) {
	texts("/a- \xc3", 7, func(s string) { valid(t, api.EID{Scheme: 1, Name: s}) })
	texts("none/", 6, func(s string) { valid(t, api.EID{Scheme: 1, Name: s}) })
	texts("a/", 12, func(s string) { valid(t, api.EID{Scheme: 1, Name: s}) })
}

// P10.1: Right, for every byte and for many runes in place of every byte of a Name, and beside it.
func TestRightOfEveryByte(t *testing.T) {
	for _, name := range []string{"none", "//a/", "//a/x", "//node-1.a/service/x"} {
		for i := range name {
			for b := range 256 {
				c := string([]byte{byte(b)})
				valid(t, api.EID{Scheme: 1, Name: name[:i] + c + name[i+1:]})
				valid(t, api.EID{Scheme: 1, Name: name[:i] + c + name[i:]})
				valid(t, api.EID{Scheme: 1, Name: name + c})
			}
			for r := rune(0); r <= 0x11000; r++ {
				valid(t, api.EID{Scheme: 1, Name: name[:i] + string(r) + name[i+1:]})
			}
		}
	}
}

// P10.1: Right, for Names of every length, divided into a node name and a service name in every way.
func TestRightOfLengths(t *testing.T) {
	for node := range 70 {
		for service := range 70 {
			name := "//" + strings.Repeat("n", node) + "/" + strings.Repeat("s", service)
			want := node > 0 && 3+node+service <= 60
			if valid(t, api.EID{Scheme: 1, Name: name}) != want {
				t.Errorf("%d, %d: not %v", node, service, want)
			}
		}
	}
}

// P10.1: None.
func TestNone(t *testing.T) {
	if e := eid.None(); e != (api.EID{Scheme: 1, Name: "none"}) || !eid.Right(e) {
		t.Errorf("%#v", e)
	}
}

// P10.1: Item, Text and Node return ErrArg, and nothing else, for every name that is not valid.
func TestErrArg(t *testing.T) {
	for _, e := range all() {
		want := api.ErrArg
		if permitted(e) {
			want = api.OK
		}
		x, e1 := eid.Item(e)
		s, e2 := eid.Text(e)
		n, e3 := eid.Node(e)
		if e1 != want || e2 != want || e3 != want {
			t.Fatalf("%#v: %d %d %d, want %d", e, e1, e2, e3, want)
		}
		if want != api.OK && (x.Kind != 0 || x.N != 0 || x.S != "" || len(x.L) != 0 || x.Open || s != "" || n != api.EID{}) {
			t.Fatalf("%#v: %#v %q %#v", e, x, s, n)
		}
	}
}
