package cbor_test

import (
	"math"
	"strings"
	"testing"

	"dromond/api"
	"dromond/cbor"
)

// before is read ahead of what a test is about, so that failures are not at offset 0.
const before = "\x18\x64"

// readerAfter returns a reader of before and s that has read before.
func readerAfter(t *testing.T, s string) *cbor.Reader {
	t.Helper()
	r := cbor.NewReader(before + s)
	if n := r.Uint(); n != 100 {
		t.Fatalf("Uint = %d, want 100", n)
	}
	return r
}

// expect checks that the reader has not failed and is at that offset behind before.
func expect(t *testing.T, what string, r *cbor.Reader, at int) {
	t.Helper()
	if bad, e := r.Bad(); bad != -1 || e != api.OK {
		t.Errorf("%s: Bad = %d, %d, want -1, OK", what, bad, e)
	}
	if r.At() != len(before)+at {
		t.Errorf("%s: At = %d, want %d", what, r.At(), len(before)+at)
	}
}

// expectFailed checks that the reader has failed with want right behind before, and stays so.
func expectFailed(t *testing.T, what string, r *cbor.Reader, want api.Errno) {
	t.Helper()
	for range 2 {
		if bad, e := r.Bad(); bad != len(before) || e != want {
			t.Errorf("%s: Bad = %d, %d, want %d, %d", what, bad, e, len(before), want)
		}
		if r.At() != len(before) || r.Done() {
			t.Errorf("%s: At = %d, Done = %t", what, r.At(), r.Done())
		}
		expectZeros(t, what, r)
		r.Fail(api.ErrSpent)
	}
}

// expectZeros checks that every reading method returns zero values.
func expectZeros(t *testing.T, what string, r *cbor.Reader) {
	t.Helper()
	if major, n, open := r.Head(); major != 0 || n != 0 || open {
		t.Errorf("%s: Head = %d, %d, %t after a failure", what, major, n, open)
	}
	if n := r.Uint(); n != 0 {
		t.Errorf("%s: Uint = %d after a failure", what, n)
	}
	if s := r.Bytes(99); s != "" {
		t.Errorf("%s: Bytes = %x after a failure", what, s)
	}
	if s := r.Text(99); s != "" {
		t.Errorf("%s: Text = %x after a failure", what, s)
	}
	if n := r.Array(); n != 0 {
		t.Errorf("%s: Array = %d after a failure", what, n)
	}
}

// P1.2: NewReader is at offset 0, and has not failed; so is the reader of nothing, which is done.
func TestNewReader(t *testing.T) {
	for _, s := range []string{"", "\x00", "\xff"} {
		r := cbor.NewReader(s)
		if bad, e := r.Bad(); r.At() != 0 || bad != -1 || e != api.OK {
			t.Errorf("%x: At = %d, Bad = %d, %d", s, r.At(), bad, e)
		}
		if r.Done() != (s == "") {
			t.Errorf("%x: Done = %t", s, r.Done())
		}
	}
}

// P1.2: Head reads every type with every size of number, whatever follows.
func TestReadHead(t *testing.T) {
	for major := 0; major <= 7; major++ {
		for i, x := range edges {
			s := bytesOf(major, i)
			r := readerAfter(t, s+"\x1c")
			if m, n, open := r.Head(); m != major || n != x.n || open {
				t.Errorf("%x: Head = %d, %d, %t", s, m, n, open)
			}
			expect(t, "Head", r, len(s))
		}
	}
}

// P1.2: Head reads open heads, whose number is 0.
func TestReadOpenHead(t *testing.T) {
	for _, major := range []int{2, 3, 4, 5, 7} {
		r := readerAfter(t, cbor.Open(major))
		if m, n, open := r.Head(); m != major || n != 0 || !open {
			t.Errorf("%d: Head = %d, %d, %t", major, m, n, open)
		}
		expect(t, "Head", r, 1)
		if !r.Done() {
			t.Errorf("%d: not done", major)
		}
	}
}

// noHeads returns texts that do not begin with a head.
func noHeads() []string {
	l := []string{"", "\x1f\x00", "\x3f\x00", "\xdf\x00"}
	for major := range 8 {
		for low := 28; low <= 30; low++ {
			l = append(l, string([]byte{byte(major*32 + low)})+strings.Repeat("\x01", 20))
		}
		for i := range edges {
			whole := bytesOf(major, i)
			for size := 1; size < len(whole); size++ {
				l = append(l, whole[:size])
			}
		}
		for _, tail := range []string{
			"\x18\x00", "\x18\x01", "\x18\x17",
			"\x19\x00\x00", "\x19\x00\x17", "\x19\x00\x18", "\x19\x00\xff",
			"\x1a\x00\x00\x00\x00", "\x1a\x00\x00\x01\x00", "\x1a\x00\x00\xff\xff",
			"\x1b\x00\x00\x00\x00\x00\x00\x00\x00", "\x1b\x00\x00\x00\x00\x00\x01\x00\x00",
			"\x1b\x00\x00\x00\x00\xff\xff\xff\xff",
		} {
			l = append(l, string([]byte{byte(major<<5) | tail[0]})+tail[1:]+strings.Repeat("\x01", 20))
		}
	}
	return l
}

// readings are the reading methods, by name, with an argument that permits everything.
var readings = []struct {
	name string
	read func(*cbor.Reader)
}{
	{"Head", func(r *cbor.Reader) { r.Head() }},
	{"Uint", func(r *cbor.Reader) { r.Uint() }},
	{"Bytes", func(r *cbor.Reader) { r.Bytes(math.MaxInt) }},
	{"Text", func(r *cbor.Reader) { r.Text(math.MaxInt) }},
	{"Array", func(r *cbor.Reader) { r.Array() }},
}

// P1.2: every reading method fails with ErrForm where there is no head.
func TestNoHead(t *testing.T) {
	for _, s := range noHeads() {
		for _, x := range readings {
			r := readerAfter(t, s)
			x.read(r)
			expectFailed(t, x.name, r, api.ErrForm)
		}
	}
}

// P1.2: a method that fails returns zero values itself.
func TestFailingReadReturnsZeros(t *testing.T) {
	for _, s := range noHeads() {
		r := readerAfter(t, s)
		if major, n, open := r.Head(); major != 0 || n != 0 || open {
			t.Errorf("%x: Head = %d, %d, %t", s, major, n, open)
		}
	}
	if n := cbor.NewReader("\x21").Uint(); n != 0 {
		t.Errorf("Uint = %d", n)
	}
	if s := cbor.NewReader("\x43ab").Bytes(9) + cbor.NewReader("\x43abc").Bytes(2); s != "" {
		t.Errorf("Bytes = %q", s)
	}
	if s := cbor.NewReader("\x63ab").Text(9) + cbor.NewReader("\x63abc").Text(2); s != "" {
		t.Errorf("Text = %q", s)
	}
	for _, s := range []string{"\x05", "\xbf", "\x99\x03\xe9"} {
		if n := cbor.NewReader(s).Array(); n != 0 {
			t.Errorf("%x: Array = %d", s, n)
		}
	}
}

// P1.2: Uint reads numbers of every size.
func TestUint(t *testing.T) {
	for i, x := range edges {
		s := bytesOf(0, i)
		r := readerAfter(t, s)
		if n := r.Uint(); n != x.n {
			t.Errorf("%x: Uint = %d", s, n)
		}
		expect(t, "Uint", r, len(s))
	}
}

// P1.2: Uint, Bytes, Text and Array fail with ErrForm for heads of other types.
func TestOtherHeads(t *testing.T) {
	own := map[string]int{"Uint": 0, "Bytes": 2, "Text": 3, "Array": 4}
	for _, x := range readings {
		mine, ok := own[x.name]
		if !ok {
			continue
		}
		for major := range 8 {
			if major == mine {
				continue
			}
			for _, s := range []string{cbor.Head(major, 0), cbor.Head(major, 1) + "a", cbor.Head(major, 1001), cbor.Open(major)} {
				if s == "" {
					continue
				}
				r := readerAfter(t, s)
				x.read(r)
				expectFailed(t, x.name, r, api.ErrForm)
			}
		}
	}
}

// strs are the two methods that read strings, with their types.
var strs = []struct {
	name  string
	major int
	read  func(*cbor.Reader, int) string
}{
	{"Bytes", 2, (*cbor.Reader).Bytes},
	{"Text", 3, (*cbor.Reader).Text},
}

// P1.2: strings of every size are read, up to and including the longest that is permitted.
func TestReadStrings(t *testing.T) {
	for _, x := range strs {
		for _, size := range []int{0, 1, 23, 24, 255, 256, 4000, 65535, 65536} {
			s := strings.Repeat("\xc3", size)
			whole := cbor.Head(x.major, uint64(size)) + s
			for _, most := range []int{size, size + 1, math.MaxInt} {
				r := readerAfter(t, whole+"\x01")
				if got := x.read(r, most); got != s {
					t.Errorf("%s(%d) of %d bytes has %d", x.name, most, size, len(got))
				}
				expect(t, x.name, r, len(whole))
				if r.Done() || r.Uint() != 1 || !r.Done() {
					t.Errorf("%s(%d) of %d bytes: what follows", x.name, most, size)
				}
			}
		}
	}
}

// P1.2: a string that is longer than permitted is ErrLong; a negative permission permits none.
func TestLongStrings(t *testing.T) {
	for _, x := range strs {
		for _, y := range []struct{ size, most int }{
			{1, 0}, {3, 2}, {24, 23}, {256, 255}, {4001, 4000}, {0, -1}, {5, -1}, {0, math.MinInt}, {5, math.MinInt},
		} {
			r := readerAfter(t, cbor.Head(x.major, uint64(y.size))+strings.Repeat("a", y.size))
			if got := x.read(r, y.most); got != "" {
				t.Errorf("%s(%d) of %d bytes = %q", x.name, y.most, y.size, got)
			}
			expectFailed(t, x.name, r, api.ErrLong)
		}
	}
}

// P1.2 and R2: too few bytes are ErrForm, also if there would be more than permitted.
func TestShortStrings(t *testing.T) {
	for _, x := range strs {
		for _, n := range []uint64{1, 3, 24, 256, 1 << 31, 1 << 32, 1<<63 - 1, 1 << 63, 1<<64 - 9, math.MaxUint64} {
			rest := strings.Repeat("a", int(min(n-1, 300)))
			for _, most := range []int{math.MinInt, -1, 0, 1, 300, math.MaxInt} {
				r := readerAfter(t, cbor.Head(x.major, n)+rest)
				if got := x.read(r, most); got != "" {
					t.Errorf("%s(%d) of %d bytes = %q", x.name, most, n, got)
				}
				expectFailed(t, x.name, r, api.ErrForm)
			}
		}
	}
}

// P1.2: open strings are ErrForm, whatever is permitted.
func TestOpenStrings(t *testing.T) {
	for _, x := range strs {
		for _, most := range []int{-1, 0, 9} {
			r := readerAfter(t, cbor.Open(x.major)+"\x41a\xff")
			x.read(r, most)
			expectFailed(t, x.name, r, api.ErrForm)
		}
	}
}

// P1.2: Array reads the head alone: its items need not be there.
func TestArray(t *testing.T) {
	for _, n := range []int{0, 1, 23, 24, 255, 256, 999, 1000} {
		s := cbor.Head(4, uint64(n))
		r := readerAfter(t, s)
		if got := r.Array(); got != n {
			t.Errorf("Array of %d = %d", n, got)
		}
		expect(t, "Array", r, len(s))
	}
	r := readerAfter(t, "\x9f")
	if got := r.Array(); got != -1 {
		t.Errorf("open Array = %d", got)
	}
	expect(t, "open Array", r, 1)
}

// P1.2: more than 1000 items are ErrLong.
func TestLongArray(t *testing.T) {
	for _, n := range []uint64{1001, 65535, 1 << 16, 1 << 32, 1 << 63, math.MaxUint64} {
		r := readerAfter(t, cbor.Head(4, n))
		if got := r.Array(); got != 0 {
			t.Errorf("Array of %d = %d", n, got)
		}
		expectFailed(t, "Array", r, api.ErrLong)
	}
}

// P1.2: Fail makes a reader fail where it is, with any error but OK.
func TestFail(t *testing.T) {
	for _, e := range []api.Errno{api.ErrArg, api.ErrForm, api.ErrDeep, api.ErrNone, 99, -1} {
		r := readerAfter(t, "\x01")
		r.Fail(api.OK)
		expect(t, "Fail(OK)", r, 0)
		r.Fail(e)
		r.Fail(api.OK)
		expectFailed(t, "Fail", r, e)
	}
}

// P1.2: a reader that is at the end can still fail; it is not done then.
func TestFailAtEnd(t *testing.T) {
	r := readerAfter(t, "")
	if !r.Done() {
		t.Error("not done at the end")
	}
	r.Fail(api.ErrRule)
	expectFailed(t, "Fail at the end", r, api.ErrRule)
}

// P1.2: Done and At follow what is read.
func TestDone(t *testing.T) {
	r := cbor.NewReader("\x9f\x18\x64\x43abc\x61x\xff")
	for i, read := range []func() bool{
		func() bool { return r.Array() == -1 && r.At() == 1 },
		func() bool { return r.Uint() == 100 && r.At() == 3 },
		func() bool { return r.Bytes(3) == "abc" && r.At() == 7 },
		func() bool { return r.Text(1) == "x" && r.At() == 9 },
		func() bool { m, n, open := r.Head(); return m == 7 && n == 0 && open && r.At() == 10 },
	} {
		if r.Done() {
			t.Errorf("done before read %d", i)
		}
		if !read() {
			t.Errorf("read %d, At = %d", i, r.At())
		}
	}
	if bad, e := r.Bad(); bad != -1 || e != api.OK || !r.Done() {
		t.Errorf("Bad = %d, %d, Done = %t", bad, e, r.Done())
	}
}

// P1.2 and R7: readers of the same text do not touch each other.
func TestReadersAreIndependent(t *testing.T) {
	a, b := cbor.NewReader("\x01\x02"), cbor.NewReader("\x01\x02")
	a.Uint()
	a.Fail(api.ErrForm)
	if bad, e := b.Bad(); b.At() != 0 || bad != -1 || e != api.OK || b.Uint() != 1 || b.Uint() != 2 || !b.Done() {
		t.Errorf("At = %d, Bad = %d, %d", b.At(), bad, e)
	}
}

// P1.2 and R1: whatever the text, a read either moves forward within it, or fails where it began.
func TestAnyText(t *testing.T) {
	for i := range 1 << 16 {
		s := string([]byte{byte(i >> 8), byte(i), byte(i * 7), 'a'})
		for size := range len(s) + 1 {
			for _, x := range readings {
				r := cbor.NewReader(s[:size])
				x.read(r)
				bad, e := r.Bad()
				moved := bad == -1 && e == api.OK && r.At() > 0 && r.At() <= size
				failed := bad == 0 && e != api.OK && r.At() == 0
				if !moved && !failed {
					t.Fatalf("%s of %x: At = %d, Bad = %d, %d", x.name, s[:size], r.At(), bad, e)
				}
			}
		}
	}
}
