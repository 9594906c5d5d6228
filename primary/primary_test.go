package primary_test

import (
	"math"
	"math/rand"
	"strings"
	"testing"

	"dromond/api"
	"dromond/eid"
	"dromond/primary"
)

// The flags of bundles, as numbers of their own, and all of them.
const (
	frag   = 1
	admin  = 2
	noFrag = 4
	here   = 16384
	gone   = 262144
	flags  = frag | admin | noFrag | here | gone
)

// most is the greatest number that Time, Seq, Life, Off and Total can be.
const most = 1099511627776

// ipn returns a name of scheme 2.
func ipn(node, service uint64) api.EID {
	return api.EID{Scheme: 2, Node: node, Service: service}
}

// dtn returns a name of scheme 1.
func dtn(name string) api.EID {
	return api.EID{Scheme: 1, Name: name}
}

// plain returns a valid primary block: the one of the chapter's example.
func plain() api.Primary {
	return api.Primary{Dst: ipn(2, 0), Src: ipn(1, 0), Rpt: dtn("none"), Time: 5, Life: 100}
}

// piece returns the valid primary block of a fragment.
func piece() api.Primary {
	p := plain()
	p.Flags, p.CRC, p.Off, p.Total = frag, 2, 3, 9
	return p
}

// checked returns the error of checking p, by a model of its own.
func checked(p api.Primary) api.Errno {
	for _, e := range []api.EID{p.Dst, p.Src, p.Rpt} {
		if !eid.Right(e) {
			return api.ErrArg
		}
	}
	if p.CRC < 0 || p.CRC > 2 || p.Flags > 2097151 {
		return api.ErrArg
	}
	for _, n := range []uint64{p.Time, p.Seq, p.Life, p.Off, p.Total} {
		if n > most {
			return api.ErrArg
		}
	}
	is := func(f uint64) bool { return p.Flags/f%2 == 1 }
	none := p.Src.Scheme == 1 && p.Src.Name == "none"
	for _, wrong := range []bool{
		is(frag) && is(noFrag),
		!is(frag) && p.Off > 0,
		!is(frag) && p.Total > 0,
		is(frag) && p.Off >= p.Total,
		none && !is(noFrag),
		none && is(here),
		none && is(gone),
		is(admin) && is(here),
		is(admin) && is(gone),
	} {
		if wrong {
			return api.ErrRule
		}
	}
	return api.OK
}

// ends are the values of Off and Total that are tried: those of fragments, and others.
var ends = [][2]uint64{
	{0, 0}, {0, 1}, {1, 0}, {1, 1}, {1, 2}, {2, 1}, {3, 9}, {9, 9}, {10, 9}, {0, most}, {most - 1, most}, {most, most},
	{most, 0}, {most, most - 1}, {23, 24}, {255, 256}, {65535, 65536}, {1<<32 - 1, 1 << 32},
	{most + 1, most}, {0, most + 1}, {most, most + 1}, {most + 1, most + 2}, {most + 1, 0}, {math.MaxUint64, 1},
	{1, math.MaxUint64}, {math.MaxUint64 - 1, math.MaxUint64}, {1 << 63, 1<<63 + 1},
}

// names are names that are tried: first valid ones, and then others.
var names = []api.EID{
	dtn("none"), dtn("//a/x"), dtn("//none/none"), dtn("//n/" + strings.Repeat("s", 56)), ipn(0, 0), ipn(1, 0),
	ipn(4294967295, 4294967295), ipn(7, 24), dtn("//a/"),
	{}, dtn(""), dtn("//a"), dtn("None"), dtn("//n/" + strings.Repeat("s", 57)), ipn(4294967296, 0), ipn(0, 4294967296),
	{Scheme: 3}, {Scheme: 3, Name: "none"}, {Scheme: 1, Name: "none", Node: 1}, {Scheme: 2, Name: "none"}, {Scheme: -1},
}

// many returns primary blocks of all kinds, valid and not: all combinations of flags, with all ends, with Src that is
// "none" and that is not, and each value of each field.
func many() []api.Primary {
	var l []api.Primary
	for f := range uint64(flags + 1) {
		if f&^flags != 0 {
			continue
		}
		for _, end := range ends {
			for _, src := range []api.EID{ipn(1, 0), dtn("none"), dtn("//a/x"), ipn(0, 0), {}} {
				p := plain()
				p.Flags, p.Src, p.Off, p.Total, p.CRC = f, src, end[0], end[1], len(l)%3
				l = append(l, p)
			}
		}
	}
	for _, base := range []api.Primary{plain(), piece()} {
		l = append(l, base)
		for _, turn := range turns() {
			p := base
			turn(&p)
			l = append(l, p)
		}
	}
	return l
}

// turns returns functions that change one field.
func turns() []func(p *api.Primary) {
	var l []func(p *api.Primary)
	add := func(f func(p *api.Primary)) { l = append(l, f) }
	for _, e := range names {
		add(func(p *api.Primary) { p.Dst = e })
		add(func(p *api.Primary) { p.Src = e })
		add(func(p *api.Primary) { p.Src, p.Flags, p.Off, p.Total = e, noFrag, 0, 0 })
		add(func(p *api.Primary) { p.Rpt = e })
	}
	for _, kind := range []int{
		0, 1, 2, 3, 4, 5, 256, 257, 258, -1, -2, 1<<32 + 1, 1<<32 + 2, math.MinInt, math.MinInt + 1, math.MaxInt,
	} {
		add(func(p *api.Primary) { p.CRC = kind })
	}
	for i := range 64 {
		add(func(p *api.Primary) { p.Flags ^= 1 << i })
		add(func(p *api.Primary) { p.Flags |= 1<<i - 1 })
	}
	for _, n := range []uint64{
		0, 1, 23, 24, 255, 256, 65535, 65536, 1<<32 - 1, 1 << 32, most - 1, most, most + 1, 1 << 41, 1 << 63,
		1<<63 + 5, math.MaxUint64 - 1, math.MaxUint64,
	} {
		add(func(p *api.Primary) { p.Time = n })
		add(func(p *api.Primary) { p.Seq = n })
		add(func(p *api.Primary) { p.Life = n })
		add(func(p *api.Primary) { p.Off = n })
		add(func(p *api.Primary) { p.Total = n })
	}
	return l
}

// valid returns those of many that are valid, by the model, and random ones.
func valid() []api.Primary {
	var l []api.Primary
	for _, p := range many() {
		if checked(p) == api.OK {
			l = append(l, p)
		}
	}
	r := rand.New(rand.NewSource(11))
	for range 1000 {
		l = append(l, random(r))
	}
	return l
}

// random returns some valid primary block.
func random(r *rand.Rand) api.Primary {
	number := func() uint64 { return r.Uint64() % (most + 1) >> r.Intn(41) }
	for {
		p := api.Primary{
			Flags: r.Uint64() % 2097152, CRC: r.Intn(3),
			Dst: names[r.Intn(9)], Src: names[r.Intn(9)], Rpt: names[r.Intn(9)],
			Time: number(), Seq: number(), Life: number(),
		}
		if p.Flags&frag != 0 {
			p.Off, p.Total = number(), number()
		}
		if checked(p) == api.OK {
			return p
		}
	}
}

// P11.1: Right, for primary blocks of all kinds.
func TestRight(t *testing.T) {
	count := map[api.Errno]int{}
	for _, p := range many() {
		want := checked(p)
		if got := primary.Right(p); got != want {
			t.Fatalf("%#v: error %d, want %d", p, got, want)
		}
		count[want]++
	}
	if count[api.OK] < 100 || count[api.ErrArg] < 100 || count[api.ErrRule] < 100 {
		t.Errorf("too few of one kind: %v", count)
	}
}

// P11.1: Right, case by case, with a change of the block of the chapter's example.
func TestRightCases(t *testing.T) {
	for _, c := range []struct {
		about string
		turn  func(p *api.Primary)
		want  api.Errno
	}{
		{"as it is", func(p *api.Primary) {}, api.OK},
		{"Dst none", func(p *api.Primary) { p.Dst = dtn("none") }, api.OK},
		{"Dst no name", func(p *api.Primary) { p.Dst = api.EID{} }, api.ErrArg},
		{"Src no name", func(p *api.Primary) { p.Src = dtn("//a") }, api.ErrArg},
		{"Rpt no name", func(p *api.Primary) { p.Rpt = ipn(1<<32, 0) }, api.ErrArg},
		{"CRC 2", func(p *api.Primary) { p.CRC = 2 }, api.OK},
		{"CRC 3", func(p *api.Primary) { p.CRC = 3 }, api.ErrArg},
		{"CRC -1", func(p *api.Primary) { p.CRC = -1 }, api.ErrArg},
		{"greatest Flags", func(p *api.Primary) { p.Flags, p.Total = 2097151&^(noFrag|admin), 1 }, api.OK},
		{"Flags too great", func(p *api.Primary) { p.Flags = 2097152 }, api.ErrArg},
		{"other flags", func(p *api.Primary) { p.Flags = 2097151 &^ flags }, api.OK},
		{"greatest Time", func(p *api.Primary) { p.Time = most }, api.OK},
		{"Time too great", func(p *api.Primary) { p.Time = most + 1 }, api.ErrArg},
		{"greatest Seq", func(p *api.Primary) { p.Seq = most }, api.OK},
		{"Seq too great", func(p *api.Primary) { p.Seq = most + 1 }, api.ErrArg},
		{"greatest Life", func(p *api.Primary) { p.Life = most }, api.OK},
		{"Life too great", func(p *api.Primary) { p.Life = most + 1 }, api.ErrArg},
		{"Life 0", func(p *api.Primary) { p.Life = 0 }, api.OK},
		{"greatest Off", func(p *api.Primary) { p.Flags, p.Off, p.Total = frag, most-1, most }, api.OK},
		{"Off too great", func(p *api.Primary) { p.Flags, p.Off, p.Total = frag, most+1, most }, api.ErrArg},
		{"Total too great", func(p *api.Primary) { p.Flags, p.Total = frag, most+1 }, api.ErrArg},
		{"Off too great, no fragment", func(p *api.Primary) { p.Off = most + 1 }, api.ErrArg},
		{"Off, no fragment", func(p *api.Primary) { p.Off = 1 }, api.ErrRule},
		{"Total, no fragment", func(p *api.Primary) { p.Total = 1 }, api.ErrRule},
		{"a fragment of nothing", func(p *api.Primary) { p.Flags = frag }, api.ErrRule},
		{"a first fragment", func(p *api.Primary) { p.Flags, p.Total = frag, 1 }, api.OK},
		{"a fragment at the end", func(p *api.Primary) { p.Flags, p.Off, p.Total = frag, 9, 9 }, api.ErrRule},
		{"a last fragment", func(p *api.Primary) { p.Flags, p.Off, p.Total = frag, 8, 9 }, api.OK},
		{"IsFrag and NoFrag", func(p *api.Primary) { p.Flags, p.Total = frag|noFrag, 9 }, api.ErrRule},
		{"NoFrag", func(p *api.Primary) { p.Flags = noFrag }, api.OK},
		{"Src none", func(p *api.Primary) { p.Src = dtn("none") }, api.ErrRule},
		{"Src none, NoFrag", func(p *api.Primary) { p.Src, p.Flags = dtn("none"), noFrag }, api.OK},
		{"Src none, IsFrag", func(p *api.Primary) { p.Src, p.Flags, p.Total = dtn("none"), frag, 9 }, api.ErrRule},
		{"Src none, ReportHere", func(p *api.Primary) { p.Src, p.Flags = dtn("none"), noFrag|here }, api.ErrRule},
		{"Src none, ReportGone", func(p *api.Primary) { p.Src, p.Flags = dtn("none"), noFrag|gone }, api.ErrRule},
		{"Src none, IsAdmin", func(p *api.Primary) { p.Src, p.Flags = dtn("none"), noFrag|admin }, api.OK},
		{"IsAdmin", func(p *api.Primary) { p.Flags = admin }, api.OK},
		{"IsAdmin, ReportHere", func(p *api.Primary) { p.Flags = admin | here }, api.ErrRule},
		{"IsAdmin, ReportGone", func(p *api.Primary) { p.Flags = admin | gone }, api.ErrRule},
		{"both reports", func(p *api.Primary) { p.Flags = here | gone }, api.OK},
		{"CRC 3 and IsFrag and NoFrag", func(p *api.Primary) { p.CRC, p.Flags = 3, frag|noFrag }, api.ErrArg},
		{"Life too great, Src none", func(p *api.Primary) { p.Src, p.Life = dtn("none"), most+1 }, api.ErrArg},
		{"Rpt no name, Off", func(p *api.Primary) { p.Rpt, p.Off = api.EID{}, 1 }, api.ErrArg},
	} {
		p := plain()
		c.turn(&p)
		if got := primary.Right(p); got != c.want {
			t.Errorf("%s: error %d, want %d", c.about, got, c.want)
		}
	}
	if e := primary.Right(api.Primary{}); e != api.ErrArg {
		t.Errorf("the zero value: error %d", e)
	}
}

// P11.1: Name, for primary blocks of all kinds, valid or not.
func TestName(t *testing.T) {
	for _, p := range append(many(), valid()...) {
		want := primary.ID{Src: p.Src, Time: p.Time, Seq: p.Seq}
		if p.Flags%2 == 1 {
			want = primary.ID{Src: p.Src, Time: p.Time, Seq: p.Seq, Frag: true, Off: p.Off, Total: p.Total}
		}
		if got := primary.Name(p); got != want {
			t.Fatalf("%#v: %#v, want %#v", p, got, want)
		}
	}
}

// P11.1: two IDs are equal as a whole unless one of the fields that identify the bundle differs.
func TestNamesDiffer(t *testing.T) {
	for _, base := range []api.Primary{plain(), piece()} {
		for i, turn := range []func(p *api.Primary){
			func(p *api.Primary) { p.Src.Node++ },
			func(p *api.Primary) { p.Time++ },
			func(p *api.Primary) { p.Seq++ },
			func(p *api.Primary) { p.Flags, p.Off, p.Total = p.Flags^frag, 0, 0 },
			func(p *api.Primary) { p.Flags, p.Off = frag, p.Off+1 },
			func(p *api.Primary) { p.Flags, p.Total = frag, p.Total+1 },
			// From here on the bundle is the same.
			func(p *api.Primary) {},
			func(p *api.Primary) { p.Dst = dtn("//a/x") },
			func(p *api.Primary) { p.Rpt = dtn("//a/x") },
			func(p *api.Primary) { p.Life++ },
			func(p *api.Primary) { p.CRC = 1 },
			func(p *api.Primary) { p.Flags |= here | gone | 8 },
		} {
			p := base
			turn(&p)
			if same := primary.Name(p) == primary.Name(base); same != (i > 5) {
				t.Errorf("change %d of %#v: %v", i, base, same)
			}
		}
	}
}

// P11.1: Whole, for primary blocks of all kinds, valid or not.
func TestWhole(t *testing.T) {
	for _, p := range append(many(), valid()...) {
		want := p
		want.Flags, want.Off, want.Total = p.Flags/2*2, 0, 0
		got := primary.Whole(p)
		if got != want {
			t.Fatalf("%#v: %#v, want %#v", p, got, want)
		}
		if id := primary.Name(got); id != (primary.ID{Src: p.Src, Time: p.Time, Seq: p.Seq}) {
			t.Fatalf("%#v: %#v", got, id)
		}
	}
}
