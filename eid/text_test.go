package eid_test

import (
	"fmt"
	"math/big"
	"math/rand"
	"regexp"
	"strings"
	"testing"

	"dromond/api"
	"dromond/eid"
)

// spelt returns the text of e, which is valid, by a model of its own.
func spelt(e api.EID) string {
	if e.Scheme == 1 {
		return "dtn:" + e.Name
	}
	return fmt.Sprintf("ipn:%d.%d", e.Node, e.Service)
}

// twoNumbers is the form of a text of scheme 2, apart from how great its numbers are.
var twoNumbers = regexp.MustCompile(`\Aipn:(0|[1-9][0-9]*)\.(0|[1-9][0-9]*)\z`)

// readText returns the name whose text s is, or false, by a model of its own.
func readText(s string) (api.EID, bool) {
	if name := strings.TrimPrefix(s, "dtn:"); name != s {
		e := api.EID{Scheme: 1, Name: name}
		return e, permitted(e)
	}
	m := twoNumbers.FindStringSubmatch(s)
	if m == nil {
		return api.EID{}, false
	}
	var n, k big.Int
	n.SetString(m[1], 10)
	k.SetString(m[2], 10)
	most := big.NewInt(4294967295)
	return api.EID{Scheme: 2, Node: n.Uint64(), Service: k.Uint64()}, n.Cmp(most) <= 0 && k.Cmp(most) <= 0
}

// parses fails unless Parse agrees with the model; it reports whether s is the text of a name.
func parses(t *testing.T, s string) bool {
	t.Helper()
	want, ok := readText(s)
	e, err := eid.Parse(s)
	if ok && (e != want || err != api.OK) {
		t.Fatalf("%q: %#v, error %d, want %#v", s, e, err, want)
	}
	if !ok && (e != api.EID{} || err != api.ErrForm) {
		t.Fatalf("%q: %#v, error %d, want ErrForm", s, e, err)
	}
	return ok
}

// P10.1: Text, for every kind of name.
func TestText(t *testing.T) {
	for _, e := range right() {
		if s, err := eid.Text(e); s != spelt(e) || err != api.OK {
			t.Fatalf("%#v: %q, error %d", e, s, err)
		}
	}
	for _, v := range []struct {
		e    api.EID
		want string
	}{
		{eid.None(), "dtn:none"},
		{api.EID{Scheme: 1, Name: "//a/x"}, "dtn://a/x"},
		{api.EID{Scheme: 2, Node: 7, Service: 1}, "ipn:7.1"},
		{api.EID{Scheme: 2}, "ipn:0.0"},
		{api.EID{Scheme: 2, Node: 4294967295, Service: 1000}, "ipn:4294967295.1000"},
	} {
		if s, err := eid.Text(v.e); s != v.want || err != api.OK {
			t.Errorf("%#v: %q, error %d", v.e, s, err)
		}
	}
}

// P10.1: Parse, for the text of every kind of name, and for what would be that of a name that is not valid.
func TestParse(t *testing.T) {
	for _, e := range all() {
		e.Scheme = 1
		if !parses(t, spelt(e)) && permitted(api.EID{Scheme: 1, Name: e.Name}) {
			t.Fatalf("%#v is not the name of its text", e)
		}
		e.Scheme, e.Name = 2, ""
		if parses(t, spelt(e)) != permitted(e) {
			t.Fatalf("%#v is not the name of its text", e)
		}
	}
}

// P10.1: Parse, for texts of none.
func TestParseOfOthers(t *testing.T) {
	for _, s := range []string{
		"", ":", "none", "//a/x", "dtn", "dtn:", "DTN:none", "Dtn://a/", "dtn;none", "dtn:None", "dtn:none ", " dtn:none",
		"dtn: none", "dtn:0", "dtn:1", "dtn:7.1", "dtn:dtn:none", "dtn:///x", "dtn://a", "dtn:/a/", "dtn:a/", "dtn://A/",
		"dtn://a/ b", "dtn://a/\n", "dtn://a/\x7f", "dtn://a/\x80", "dtn://a/é", "dtn:none/", "dtn://", "dtn:////",
		"ipn", "ipn:", "ipn:.", "ipn:1", "ipn:1.", "ipn:.1", "ipn:1.2.3", "ipn:1.2.", "ipn:.1.2", "ipn:1..2", "ipn:01.2",
		"ipn:1.02", "ipn:00.0", "ipn:0.00", "ipn:+1.2", "ipn:1.+2", "ipn:-1.0", "ipn:1.-0", "ipn:-0.0", "ipn: 1.2",
		"ipn:1.2 ", " ipn:1.2", "ipn:1 .2", "ipn:1. 2", "ipn:1,2", "ipn:1:2", "ipn:0x1.2", "ipn:1.0x2", "ipn:1_0.2",
		"ipn:1e1.2", "ipn:a.b", "ipn:1.b", "ipn:١.٢", "ipn:1.2\n", "ipn:1.2\x00", "IPN:1.2", "Ipn:1.2", "ipn;1.2", "1.2",
		"ipn:none", "ipn://a/x", "ipn:ipn:1.2", "ipn:dtn:none", "tcp:1", "tcp://a/x", "imc:1.2", "ipn:1.2ipn:1.2",
		"ipn:4294967296.0", "ipn:0.4294967296", "ipn:04294967295.0", "ipn:18446744073709551616.0",
		"ipn:0.18446744073709551616", "ipn:18446744073709551617.1", "ipn:340282366920938463463374607431768211457.1",
		"ipn:" + strings.Repeat("9", 5000) + ".1", "ipn:" + strings.Repeat("0", 5000) + "1.1",
		"ipn:1." + strings.Repeat("0", 99),
		"dtn://a/" + strings.Repeat("s", 57), "dtn://" + strings.Repeat("n", 58) + "/", strings.Repeat("dtn:", 999),
	} {
		if parses(t, s) {
			t.Errorf("%q is permitted", s)
		}
	}
}

// P10.1: Parse, for every short text of each scheme, and for every text near that of a name.
func TestParseOfShortTexts(t *testing.T) {
	count := 0
	some := func(s string) {
		if parses(t, s) {
			count++
		}
	}
	texts("/a- ", 6, func(s string) { some("dtn:" + s) })
	texts("01.-+", 7, func(s string) { some("ipn:" + s) })
	texts("ipndt:.0", 5, some)
	for _, near := range []string{"dtn:none", "dtn://a/x", "ipn:7.1", "ipn:4294967295.4294967295"} {
		for i := range near {
			some(near[:i])
			some(near[i+1:])
			some(near[:i] + near[i+1:])
			for b := range 256 {
				c := string([]byte{byte(b)})
				some(near[:i] + c + near[i:])
				some(near[:i] + c + near[i+1:])
				some(near + c)
			}
		}
	}
	if count < 1000 {
		t.Errorf("only %d are permitted", count)
	}
}

// P10.1: Parse, for numbers on both sides of the greatest one.
func TestParseOfGreatNumbers(t *testing.T) {
	for n := int64(4294967295 - 300); n <= 4294967295+300; n++ {
		for _, s := range []string{fmt.Sprintf("ipn:%d.7", n), fmt.Sprintf("ipn:7.%d", n)} {
			if parses(t, s) != (n <= 4294967295) {
				t.Errorf("%s", s)
			}
		}
	}
}

// P10.3: Of(Item(e)) and Parse(Text(e)) are e.
func TestThereAndBack(t *testing.T) {
	r := rand.New(rand.NewSource(3))
	l := right()
	for range 100000 {
		l = append(l, random(r))
	}
	for _, e := range l {
		x, e1 := eid.Item(e)
		if e1 != api.OK {
			t.Fatalf("%#v: error %d", e, e1)
		}
		is(t, x, e)
		s, e2 := eid.Text(e)
		if got, err := eid.Parse(s); got != e || err != api.OK || e2 != api.OK {
			t.Fatalf("%#v: %q, errors %d %d, %#v", e, s, e2, err, got)
		}
	}
}

// P10.3: no two names have the same text or the same item, as each of them is read back.
func TestOneTextEach(t *testing.T) {
	found := map[string]api.EID{}
	for _, e := range right() {
		s, _ := eid.Text(e)
		if other, ok := found[s]; ok && other != e {
			t.Errorf("%q is the text of %#v and %#v", s, e, other)
		}
		found[s] = e
	}
}
