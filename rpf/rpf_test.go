package rpf

import (
	"math"
	"math/rand"
	"reflect"
	"slices"
	"testing"

	"castellan/addr"
	"castellan/api"
	"castellan/fib"
)

// modes is all modes that there are, in the order of the answers of a case: none,
// strict, feasible, loose, looser.
var modes = []int{0, 1, 4, 2, 3}

// noModes is numbers of none.
var noModes = []int{-1, 5, -2, -4, 6, 8, 256, 1 << 32, 1<<32 + 1, 1<<32 + 3, -1 << 32, -1<<32 + 4, math.MinInt, math.MaxInt}

// noIfaces is numbers of none, of however many there are.
var noIfaces = []int{-1, 8, 9, -8, 256, 1 << 32, 1<<32 + 1, -1 << 32, math.MinInt, math.MaxInt}

const most uint32 = math.MaxUint32

// first is an address's first n bits, as a prefix.
func first(a uint32, n int) api.Prefix {
	return api.Prefix{Addr: uint32(uint64(a) >> (32 - n) << (32 - n)), Len: n}
}

// last is the last address of a prefix, whatever its other bits.
func last(p api.Prefix) uint32 {
	return uint32(uint64(first(p.Addr, p.Len).Addr) + 1<<(32-p.Len) - 1)
}

// px is a text as a prefix.
func px(t *testing.T, s string) api.Prefix {
	t.Helper()
	p, e := addr.ParsePrefix(s)
	if e != api.OK {
		t.Fatal(s)
	}
	return p
}

// ip is a text as an address.
func ip(t *testing.T, s string) uint32 {
	t.Helper()
	return px(t, s).Addr
}

// way is a way of table 0.
func way(t *testing.T, s string, iface, metric int) api.Route {
	t.Helper()
	return api.Route{Prefix: px(t, s), Iface: iface, Metric: metric}
}

// in is a way in another table.
func in(table int, r api.Route) api.Route {
	r.Table = table
	return r
}

// by is a way by another gate.
func by(gate uint32, r api.Route) api.Route {
	r.Gate = gate
	return r
}

// of is a Fib of these ways.
func of(t *testing.T, ifaces int, l ...api.Route) *fib.Fib {
	t.Helper()
	f := fib.New(ifaces)
	for _, r := range l {
		if e := f.Add(r); e != api.OK {
			t.Fatalf("Add(%v): %v", r, e)
		}
	}
	return f
}

// set sets interfaces up or down.
func set(t *testing.T, f *fib.Fib, up bool, l ...int) {
	t.Helper()
	for _, iface := range l {
		if e := f.SetUp(iface, up); e != api.OK {
			t.Fatalf("SetUp(%d, %v): %v", iface, up, e)
		}
	}
}

// told is what the modes answer, each as y or n.
func told(f *fib.Fib, iface int, src uint32) string {
	var s []byte
	for _, mode := range modes {
		if Check(f, mode, iface, src) {
			s = append(s, 'y')
		} else {
			s = append(s, 'n')
		}
	}
	return string(s)
}

// hold holds what is told of a source at each interface from 0 on against these
// texts, and what is told at numbers that are none against the last one.
func hold(t *testing.T, f *fib.Fib, src string, want ...string) {
	t.Helper()
	for iface, s := range want[:len(want)-1] {
		if got := told(f, iface, ip(t, src)); got != s {
			t.Errorf("%s at %d: %s, want %s", src, iface, got, s)
		}
	}
	for _, iface := range append(noIfaces, len(want)-1) {
		if got := told(f, iface, ip(t, src)); got != want[len(want)-1] {
			t.Errorf("%s at %d: %s, want %s", src, iface, got, want[len(want)-1])
		}
	}
}

// worth is the numbers that chapters 11 and 12 choose by: of prefixes the
// longest, of its ways the best.
func worth(r api.Route) []int64 {
	return []int64{-int64(r.Prefix.Len), int64(r.Metric), int64(r.Iface), int64(r.Gate)}
}

// alives is P13.1's Alive, the best first.
func alives(f *fib.Fib, src uint32) []api.Route {
	var l []api.Route
	up := f.Up()
	for _, r := range f.All() {
		if r.Table == 0 && up[r.Iface] && first(src, r.Prefix.Len) == r.Prefix {
			l = append(l, r)
		}
	}
	slices.SortFunc(l, func(a, b api.Route) int { return slices.Compare(worth(a), worth(b)) })
	return l
}

// plain is P13.1's Check in plain words: the first of the alive ways is the one
// that Look tells.
func plain(f *fib.Fib, mode, iface int, src uint32) bool {
	for i, r := range alives(f, src) {
		if mode == api.RpfStrict && i == 0 && r.Iface == iface {
			return true
		}
		if mode == api.RpfFeasible && r.Iface == iface {
			return true
		}
		if mode == api.RpfLoose && r.Prefix.Len != 0 || mode == api.RpfLooser {
			return true
		}
	}
	return mode == api.RpfNone
}

// The example of the chapter.
func TestExample(t *testing.T) {
	f := of(t, 2, way(t, "10.0.0.0/8", 1, 0))
	if Check(f, api.RpfStrict, 0, ip(t, "10.1.1.1")) {
		t.Error("at 0")
	}
	if !Check(f, api.RpfStrict, 1, ip(t, "10.1.1.1")) {
		t.Error("at 1")
	}
}

// P13.1: without a way only RpfNone is true, whatever interfaces there are.
func TestNoWays(t *testing.T) {
	for n := range 9 {
		f := fib.New(n)
		for _, src := range []string{"0.0.0.0", "10.1.1.1", "127.255.255.255", "128.0.0.0", "255.255.255.255"} {
			hold(t, f, src, append(slices.Repeat([]string{"ynnnn"}, n), "ynnnn")...)
		}
	}
}

// P13.1, RpfNone: always true, also where all else is false.
func TestNone(t *testing.T) {
	f := of(t, 2, way(t, "10.0.0.0/8", 1, 0))
	down := of(t, 2, way(t, "0.0.0.0/0", 1, 0))
	set(t, down, false, 0, 1)
	for _, x := range []*fib.Fib{nil, fib.New(0), new(fib.Fib), f, down} {
		for _, iface := range append(noIfaces, 0, 1, 2) {
			for _, src := range []uint32{0, 1, 10 << 24, 11 << 24, 224 << 24, most} {
				if !Check(x, api.RpfNone, iface, src) {
					t.Error(iface, src)
				}
			}
		}
	}
}

// P13.1: one way's addresses are its prefix's, both ends too, and none beside
// them; only its own interface is strict and feasible.
func TestOneWay(t *testing.T) {
	f := of(t, 3, way(t, "10.0.0.0/8", 1, 7))
	for _, src := range []string{"10.0.0.0", "10.1.1.1", "10.255.255.255"} {
		hold(t, f, src, "ynnyy", "yyyyy", "ynnyy", "ynnyy")
	}
	for _, src := range []string{"0.0.0.0", "9.255.255.255", "11.0.0.0", "255.255.255.255"} {
		hold(t, f, src, "ynnnn", "ynnnn", "ynnnn", "ynnnn")
	}
}

// P13.1: interface 0 is one like others, not what is told where there is no way.
func TestInterfaceZero(t *testing.T) {
	f := of(t, 2, way(t, "10.0.0.0/8", 0, 0))
	hold(t, f, "10.0.0.0", "yyyyy", "ynnyy", "ynnyy")
	hold(t, f, "11.0.0.0", "ynnnn", "ynnnn", "ynnnn")
}

// P13.1: prefixes of each Len at each interface, at both ends and beside them.
func TestEveryLen(t *testing.T) {
	for n := range 33 {
		for _, a := range []uint32{0, most, 0x0a01807f, 0xaaaaaaaa} {
			p := first(a, n)
			iface := n % 8
			f := of(t, 8, api.Route{Prefix: p, Iface: iface})
			for i := range 8 {
				want, beside := "ynnyy", "ynnnn"
				if i == iface {
					want = "yyyyy"
				}
				if n == 0 {
					want = want[:3] + "ny"
				}
				if told(f, i, p.Addr) != want || told(f, i, last(p)) != want {
					t.Error(n, i, told(f, i, p.Addr), told(f, i, last(p)))
				}
				if n > 0 && (told(f, i, p.Addr-1) != beside || told(f, i, last(p)+1) != beside) {
					t.Error(n, i, told(f, i, p.Addr-1), told(f, i, last(p)+1))
				}
			}
		}
	}
}

// P13.1, RpfLoose: a default way alone is not enough, whichever interface and
// metric it has, and however many there are; RpfLooser: it is.
func TestDefault(t *testing.T) {
	for _, src := range []string{"0.0.0.0", "10.1.1.1", "255.255.255.255"} {
		f := of(t, 3, way(t, "0.0.0.0/0", 1, 0))
		hold(t, f, src, "ynnny", "yyyny", "ynnny", "ynnny")
		f = of(t, 3, way(t, "0.0.0.0/0", 1, 9), way(t, "0.0.0.0/0", 2, 8), by(77, way(t, "0.0.0.0/0", 2, 9)))
		hold(t, f, src, "ynnny", "ynyny", "yyyny", "ynnny")
		set(t, f, false, 2)
		hold(t, f, src, "ynnny", "yyyny", "ynnny", "ynnny")
		set(t, f, false, 1)
		hold(t, f, src, "ynnnn", "ynnnn", "ynnnn", "ynnnn")
	}
}

// P13.1, RpfLoose: a way of Len 1 is enough for its half of all, beside a
// default way and without one.
func TestLenOne(t *testing.T) {
	f := of(t, 2, way(t, "128.0.0.0/1", 1, 0))
	hold(t, f, "128.0.0.0", "ynnyy", "yyyyy", "ynnyy")
	hold(t, f, "255.255.255.255", "ynnyy", "yyyyy", "ynnyy")
	hold(t, f, "127.255.255.255", "ynnnn", "ynnnn", "ynnnn")
	f = of(t, 2, way(t, "0.0.0.0/1", 1, 0), way(t, "0.0.0.0/0", 0, 0))
	hold(t, f, "0.0.0.0", "ynyyy", "yyyyy", "ynnyy")
	hold(t, f, "127.255.255.255", "ynyyy", "yyyyy", "ynnyy")
	hold(t, f, "128.0.0.0", "yyyny", "ynnny", "ynnny")
}

// P13.1, RpfLoose: a way whose prefix is longer is enough, though the one that
// is up beside it is a default way, and not once it is down.
func TestLooseAsksWhatIsUp(t *testing.T) {
	f := of(t, 2, way(t, "0.0.0.0/0", 0, 0), way(t, "10.1.1.1/32", 1, 255))
	hold(t, f, "10.1.1.1", "ynyyy", "yyyyy", "ynnyy")
	hold(t, f, "10.1.1.0", "yyyny", "ynnny", "ynnny")
	set(t, f, false, 1)
	hold(t, f, "10.1.1.1", "yyyny", "ynnny", "ynnny")
	set(t, f, false, 0)
	hold(t, f, "10.1.1.1", "ynnnn", "ynnnn", "ynnnn")
	set(t, f, true, 1)
	hold(t, f, "10.1.1.1", "ynnyy", "yyyyy", "ynnyy")
}

// P13.1, RpfStrict: where two ways of the longest prefix leave by two interfaces
// only the better one's is strict - the less metric's, or the less interface's -,
// in whichever order they came; both are feasible.
func TestTwoOfTheLongest(t *testing.T) {
	for _, x := range []struct{ one, two int }{{1, 2}, {0, 255}, {3, 3}, {0, 0}} {
		for _, turned := range []bool{false, true} {
			l := []api.Route{way(t, "10.0.0.0/8", 1, x.one), way(t, "10.0.0.0/8", 2, x.two)}
			if turned {
				slices.Reverse(l)
			}
			f := of(t, 3, l...)
			hold(t, f, "10.1.1.1", "ynnyy", "yyyyy", "ynyyy", "ynnyy")
			set(t, f, false, 1)
			hold(t, f, "10.1.1.1", "ynnyy", "ynnyy", "yyyyy", "ynnyy")
			set(t, f, false, 2)
			hold(t, f, "10.1.1.1", "ynnnn", "ynnnn", "ynnnn", "ynnnn")
			set(t, f, true, 1)
			hold(t, f, "10.1.1.1", "ynnyy", "yyyyy", "ynnyy", "ynnyy")
		}
	}
	f := of(t, 3, way(t, "10.0.0.0/8", 1, 6), way(t, "10.0.0.0/8", 2, 5))
	hold(t, f, "10.1.1.1", "ynnyy", "ynyyy", "yyyyy", "ynnyy")
}

// P13.1: a way by a gate counts as one that is next door, and of two of an
// interface either.
func TestGates(t *testing.T) {
	f := of(t, 3, by(most, way(t, "10.0.0.0/8", 1, 5)), by(1, way(t, "10.0.0.0/8", 1, 7)), by(1, way(t, "10.0.0.0/8", 2, 6)))
	hold(t, f, "10.1.1.1", "ynnyy", "yyyyy", "ynyyy", "ynnyy")
	if e := f.Del(by(most, way(t, "10.0.0.0/8", 1, 0))); e != api.OK {
		t.Fatal(e)
	}
	hold(t, f, "10.1.1.1", "ynnyy", "ynyyy", "yyyyy", "ynnyy")
}

// P13.1: the longest prefix's interface is strict, whatever the metrics; a
// shorter one's is feasible; where the longest one's goes down the next one's is
// strict.
func TestShorterIsFeasible(t *testing.T) {
	f := of(t, 4, way(t, "0.0.0.0/0", 3, 0), way(t, "10.0.0.0/8", 1, 1), way(t, "10.1.0.0/16", 2, 255))
	hold(t, f, "10.1.1.1", "ynnyy", "ynyyy", "yyyyy", "ynyyy", "ynnyy")
	hold(t, f, "10.2.1.1", "ynnyy", "yyyyy", "ynnyy", "ynyyy", "ynnyy")
	hold(t, f, "11.1.1.1", "ynnny", "ynnny", "ynnny", "yyyny", "ynnny")
	set(t, f, false, 2)
	hold(t, f, "10.1.1.1", "ynnyy", "yyyyy", "ynnyy", "ynyyy", "ynnyy")
	set(t, f, false, 1)
	hold(t, f, "10.1.1.1", "ynnny", "ynnny", "ynnny", "yyyny", "ynnny")
	set(t, f, true, 2)
	hold(t, f, "10.1.1.1", "ynnyy", "ynnyy", "yyyyy", "ynyyy", "ynnyy")
	hold(t, f, "10.2.1.1", "ynnny", "ynnny", "ynnny", "yyyny", "ynnny")
}

// P13.1: ways of other tables never count, neither alone nor beside some of
// table 0 that are shorter, or worse, or down.
func TestOtherTables(t *testing.T) {
	for _, table := range []int{1, 2, 3} {
		f := of(t, 2, in(table, way(t, "0.0.0.0/0", 0, 0)), in(table, way(t, "10.0.0.0/8", 0, 0)), in(table, way(t, "10.1.1.1/32", 1, 0)))
		hold(t, f, "10.1.1.1", "ynnnn", "ynnnn", "ynnnn")
		if e := f.Add(way(t, "0.0.0.0/0", 1, 9)); e != api.OK {
			t.Fatal(e)
		}
		hold(t, f, "10.1.1.1", "ynnny", "yyyny", "ynnny")
		if e := f.Add(way(t, "10.0.0.0/8", 1, 9)); e != api.OK {
			t.Fatal(e)
		}
		hold(t, f, "10.1.1.1", "ynnyy", "yyyyy", "ynnyy")
		set(t, f, false, 1)
		hold(t, f, "10.1.1.1", "ynnnn", "ynnnn", "ynnnn")
	}
}

// P13.1: a way counts again where its interface comes up again, and no more
// where it is taken away.
func TestComesAndGoes(t *testing.T) {
	r := way(t, "10.0.0.0/8", 1, 5)
	f := of(t, 2, r)
	for range 2 {
		hold(t, f, "10.1.1.1", "ynnyy", "yyyyy", "ynnyy")
		set(t, f, false, 1)
		hold(t, f, "10.1.1.1", "ynnnn", "ynnnn", "ynnnn")
		set(t, f, true, 1)
	}
	set(t, f, false, 0)
	hold(t, f, "10.1.1.1", "ynnyy", "yyyyy", "ynnyy")
	if e := f.Del(r); e != api.OK {
		t.Fatal(e)
	}
	hold(t, f, "10.1.1.1", "ynnnn", "ynnnn", "ynnnn")
}

// P13.1: another mode is false, where all that there are are true.
func TestOtherModes(t *testing.T) {
	f := of(t, 2, way(t, "10.0.0.0/8", 1, 5))
	for _, mode := range noModes {
		for _, x := range []*fib.Fib{nil, fib.New(2), f} {
			for _, iface := range append(noIfaces, 0, 1) {
				if Check(x, mode, iface, ip(t, "10.1.1.1")) {
					t.Error(mode, iface)
				}
			}
		}
	}
}

// P13.1, W8: of a nil Fib RpfNone is true, all else false; so of one that is not
// from New (W1).
func TestNil(t *testing.T) {
	for _, f := range []*fib.Fib{nil, new(fib.Fib)} {
		for _, iface := range append(noIfaces, 0, 1, 7) {
			for _, src := range []uint32{0, 1, 10 << 24, 1 << 31, most} {
				if got := told(f, iface, src); got != "ynnnn" {
					t.Error(iface, src, got)
				}
			}
		}
	}
}

// some is an address near others, now and then anywhere.
func some(r *rand.Rand) uint32 {
	if r.Intn(9) == 0 {
		return r.Uint32()
	}
	return uint32(r.Intn(2))<<31 | uint32(r.Intn(3))<<16 | uint32(r.Intn(2))<<8 | uint32(r.Intn(3))
}

// step changes a Fib, or is refused.
func step(r *rand.Rand, f *fib.Fib) {
	if row := f.All(); len(row) > 0 && r.Intn(4) == 0 {
		f.Del(row[r.Intn(len(row))])
		return
	}
	if r.Intn(4) == 0 {
		f.SetUp(r.Intn(4), r.Intn(2) == 0)
		return
	}
	x := api.Route{Table: r.Intn(6) / 3, Prefix: first(some(r), r.Intn(33)), Iface: r.Intn(4), Gate: uint32(r.Intn(2)), Metric: r.Intn(3)}
	if r.Intn(3) == 0 {
		x.Prefix = first(x.Prefix.Addr, r.Intn(2))
	}
	f.Add(x)
}

// P13.1, P13.3, P0.3: behind each of many steps each mode is what the plain
// words say; strict is feasible; feasible is looser.
func TestRows(t *testing.T) {
	times := map[string]int{}
	for seed := range 40 {
		r := rand.New(rand.NewSource(int64(seed)))
		f := fib.New(4)
		for i := range 60 {
			step(r, f)
			src := some(r)
			for _, iface := range []int{0, 1, 2, 3, 4, -1} {
				for _, mode := range append(noModes, modes...) {
					if got, want := Check(f, mode, iface, src), plain(f, mode, iface, src); got != want {
						t.Fatalf("%d, %d: mode %d at %d from %s: %v, of %v, %v", seed, i, mode, iface, addr.Print(src), got, f.All(), f.Up())
					}
				}
				s := told(f, iface, src)
				if s[1] == 'y' && s[2] != 'y' || s[2] == 'y' && s[4] != 'y' {
					t.Fatalf("%d, %d: %s", seed, i, s)
				}
				times[s]++
			}
		}
	}
	for _, s := range []string{"ynnnn", "ynnny", "ynnyy", "ynyny", "yyyny", "ynyyy", "yyyyy"} {
		if times[s] < 20 {
			t.Errorf("%s: %d times", s, times[s])
		}
	}
	if len(times) != 7 {
		t.Error(times)
	}
}

// state is all that a Fib tells, but for addresses of which there are too many.
type state struct {
	up     []bool
	all    []api.Route
	blocks []int
	looks  []api.Route
}

// stateOf is a Fib's.
func stateOf(f *fib.Fib) state {
	s := state{up: f.Up(), all: f.All()}
	for table := range 4 {
		s.blocks = append(s.blocks, f.Blocks(table))
		for _, x := range s.all {
			for _, a := range []uint32{x.Prefix.Addr, last(x.Prefix)} {
				d, _ := f.ByDir(table, a)
				e, _ := f.ByTrie(table, a)
				s.looks = append(s.looks, d, e)
			}
		}
	}
	return s
}

// P13.1, W2: Check changes nothing that the Fib tells, answers the same when it
// is asked again, and knows of no other Fib.
func TestCheckChangesNothing(t *testing.T) {
	r := rand.New(rand.NewSource(99))
	f, other := fib.New(4), fib.New(4)
	for range 50 {
		step(r, f)
	}
	was := stateOf(f)
	for range 200 {
		src, iface := some(r), r.Intn(6)-1
		one := told(f, iface, src)
		for _, mode := range noModes {
			Check(f, mode, iface, src)
		}
		step(r, other)
		told(other, iface, src)
		if two := told(f, iface, src); one != two {
			t.Fatal(one, two)
		}
	}
	if !reflect.DeepEqual(was, stateOf(f)) {
		t.Error(was, stateOf(f))
	}
}

// lens is Lens that may be, and such that may not.
var lens = []int{math.MinInt, -1 << 32, -33, -2, -1, 0, 1, 8, 24, 29, 30, 31, 32, 33, 34, 64, 256, 1 << 32, 1<<32 + 8, math.MaxInt}

// ifaces is a configuration of interfaces of these addresses and networks.
func ifaces(l ...api.Prefix) api.Config {
	var c api.Config
	for _, p := range l {
		c.Ifaces = append(c.Ifaces, api.Iface{Addr: p})
	}
	return c
}

// bogons is a configuration of these bogons.
func bogons(l ...api.Prefix) api.Config {
	return api.Config{Bogons: l}
}

// P13.2, Own: an interface's address, whatever its Len, is; none beside it is,
// nor another one of its network.
func TestOwn(t *testing.T) {
	for _, n := range lens {
		for _, a := range []uint32{0, 1, 10<<24 | 1, 1 << 31, 224 << 24, most} {
			c := ifaces(api.Prefix{Addr: a, Len: n})
			if !Own(c, a) {
				t.Error(n, a)
			}
			for _, b := range []uint32{a - 1, a + 1, a ^ 1<<31, a ^ 1<<8, a ^ 1<<16} {
				if Own(c, b) {
					t.Error(n, a, b)
				}
			}
		}
	}
}

// P13.2, Own: of many interfaces each one's; nothing else of a configuration is.
func TestOwnOfMany(t *testing.T) {
	c := ifaces(px(t, "10.0.0.1/8"), px(t, "10.0.0.2/8"), px(t, "20.0.0.1/31"), px(t, "30.0.0.1/32"))
	c.Bogons = []api.Prefix{px(t, "50.0.0.1")}
	c.Tables = []api.Named{{Name: "t", L: []api.Prefix{px(t, "60.0.0.1")}}}
	c.Rules = []api.Rule{{From: api.Side{Prefix: px(t, "70.0.0.1")}, RouteTo: api.Pin{On: true, Gate: ip(t, "80.0.0.1")}}}
	for s, want := range map[string]bool{
		"10.0.0.1": true, "10.0.0.2": true, "20.0.0.1": true, "30.0.0.1": true,
		"10.0.0.0": false, "10.0.0.3": false, "10.255.255.255": false, "20.0.0.0": false, "30.0.0.0": false, "30.0.0.2": false,
		"50.0.0.1": false, "60.0.0.1": false, "70.0.0.1": false, "80.0.0.1": false,
	} {
		if Own(c, ip(t, s)) != want {
			t.Error(s)
		}
	}
}

// P13.2, W5: without interfaces nothing is Own, and 255.255.255.255 alone is a
// Broadcast; nil and empty lists are the same.
func TestNoInterfaces(t *testing.T) {
	for _, c := range []api.Config{{}, {Ifaces: []api.Iface{}, Bogons: []api.Prefix{}}, bogons(px(t, "10.0.0.0/8"))} {
		for _, a := range []uint32{0, 1, 10 << 24, 10<<24 | 1<<24 - 1, 1 << 31, 224 << 24, most - 1, most} {
			if Own(c, a) {
				t.Error(a)
			}
			if Broadcast(c, a) != (a == most) {
				t.Error(a)
			}
		}
	}
}

// P13.2, Broadcast: the last address of an interface's network of each Len that
// is at most 30, whichever of its addresses the interface has; none beside it,
// nor its first.
func TestBroadcast(t *testing.T) {
	for n := range 33 {
		for _, a := range []uint32{0x0a01807e, 0xaaaaaaaa, 0x14000000} {
			p := api.Prefix{Addr: a, Len: n}
			c := ifaces(p)
			if got := Broadcast(c, last(p)); got != (n <= 30) {
				t.Error(n, a, got)
			}
			for _, b := range []uint32{first(a, n).Addr, last(p) - 1, last(p) + 1, a - 1, a + 1, a} {
				if b != most && b != last(p) && Broadcast(c, b) {
					t.Error(n, a, b)
				}
			}
			if !Broadcast(c, most) {
				t.Error(n, a)
			}
		}
	}
}

// P13.2, Broadcast: the Lens that the words part, by hand.
func TestBroadcastByHand(t *testing.T) {
	c := ifaces(px(t, "10.1.0.1/16"), px(t, "20.0.0.1/31"), px(t, "30.0.0.1/30"), px(t, "40.0.0.1/32"), px(t, "50.0.0.9/29"), px(t, "100.0.0.1/1"))
	for s, want := range map[string]bool{
		"10.1.255.255": true, "10.1.255.254": false, "10.2.0.0": false, "10.1.0.0": false, "10.1.0.1": false,
		"20.0.0.0": false, "20.0.0.1": false, "20.0.0.2": false,
		"30.0.0.2": false, "30.0.0.3": true, "30.0.0.4": false, "30.0.0.0": false,
		"40.0.0.0": false, "40.0.0.1": false, "40.0.0.2": false,
		"50.0.0.14": false, "50.0.0.15": true, "50.0.0.16": false, "50.0.0.7": false, "50.0.0.8": false,
		"127.255.255.255": true, "127.255.255.254": false, "128.0.0.0": false,
		"255.255.255.255": true, "255.255.255.254": false, "0.0.0.0": false,
	} {
		if Broadcast(c, ip(t, s)) != want {
			t.Error(s)
		}
	}
	for _, s := range []string{"10.1.255.255/16", "30.0.0.3/30"} {
		if c := ifaces(px(t, s)); !Broadcast(c, px(t, s).Addr) || !Own(c, px(t, s).Addr) {
			t.Error(s)
		}
	}
	all := ifaces(px(t, "10.1.0.1/0"))
	for s, want := range map[string]bool{"255.255.255.255": true, "255.255.255.254": false, "10.255.255.255": false, "10.1.0.1": false, "0.0.0.0": false} {
		if Broadcast(all, ip(t, s)) != want {
			t.Error(s)
		}
	}
}

// P13.2, W1: Lens that may not be are held (3); above 30 no address is all of a
// network.
func TestBroadcastOfWrongLens(t *testing.T) {
	for _, n := range lens {
		if n >= 0 && n <= 32 {
			continue
		}
		c := ifaces(api.Prefix{Addr: 10<<24 | 1, Len: n})
		for _, a := range []uint32{0, 10 << 24, 10<<24 | 1, 10<<24 | 2, 10<<24 | 255, 11<<24 - 1, most - 1, most} {
			if Broadcast(c, a) != (a == most) {
				t.Error(n, a)
			}
		}
	}
}

// P13.2, Source: without a configuration an ordinary address is one; those that
// are nobody's, or many, are none, at both ends of what is.
func TestSourceOfAnything(t *testing.T) {
	for s, want := range map[string]bool{
		"0.0.0.0": false, "0.0.0.1": false, "0.1.2.3": false, "0.255.255.255": false,
		"1.0.0.0": true, "1.0.0.1": true, "10.1.2.3": true, "127.0.0.1": true, "127.255.255.255": true, "128.0.0.0": true, "192.168.0.1": true,
		"223.255.255.255": true,
		"224.0.0.0":       false, "224.0.0.1": false, "231.255.255.255": false, "232.0.0.0": false, "239.0.0.0": false, "239.255.255.255": false,
		"240.0.0.0": true, "247.255.255.255": true, "248.0.0.0": true, "255.255.255.254": true, "255.255.255.0": true,
		"255.255.255.255": false,
	} {
		for _, c := range []api.Config{{}, {Ifaces: []api.Iface{}, Bogons: []api.Prefix{}}, ifaces(px(t, "5.0.0.1/24")), bogons(px(t, "5.0.0.0/8"))} {
			if Source(c, ip(t, s)) != want {
				t.Error(s)
			}
		}
	}
}

// P13.2, Source: what is Own is none, and what is a Broadcast; what is beside
// them, and else of the network, is one.
func TestSourceOfInterfaces(t *testing.T) {
	c := ifaces(px(t, "10.1.0.1/16"), px(t, "20.0.0.1/31"), px(t, "30.0.0.1/30"), px(t, "40.0.0.1/32"))
	for s, want := range map[string]bool{
		"10.1.0.1": false, "10.1.0.0": true, "10.1.0.2": true, "10.1.255.254": true, "10.1.255.255": false, "10.2.0.0": true, "10.2.255.255": true,
		"20.0.0.1": false, "20.0.0.0": true, "20.0.0.2": true,
		"30.0.0.1": false, "30.0.0.0": true, "30.0.0.2": true, "30.0.0.3": false, "30.0.0.4": true,
		"40.0.0.1": false, "40.0.0.0": true, "40.0.0.2": true,
	} {
		if Source(c, ip(t, s)) != want {
			t.Error(s)
		}
	}
}

// P13.2, Source: an address of one of the bogons is none, at both ends of each
// of them; one beside them is.
func TestSourceOfBogons(t *testing.T) {
	l := []api.Prefix{px(t, "10.0.0.0/8"), px(t, "203.0.113.7/32"), px(t, "192.168.0.0/16"), px(t, "128.0.0.0/3"), px(t, "192.168.7.0/31")}
	for i, p := range l {
		one, few := bogons(p), bogons(l[:i+1]...)
		for k, q := range l {
			for _, a := range []uint32{q.Addr, last(q)} {
				if got := Source(one, a); got != (first(a, p.Len) != p) {
					t.Error(addr.PrintPrefix(p), addr.Print(a), got)
				}
				if k <= i && Source(few, a) {
					t.Error(i, addr.Print(a))
				}
			}
		}
		for _, s := range []string{"9.255.255.255", "11.0.0.0", "203.0.113.6", "203.0.113.8", "192.167.255.255", "192.169.0.0", "127.255.255.255", "160.0.0.0"} {
			if !Source(few, ip(t, s)) {
				t.Error(i, s)
			}
		}
	}
}

// P13.2, Source: bogons of each Len; bits behind the first Len don't count, and
// Lens that may not be are held (3: Has).
func TestBogonsOfEveryLen(t *testing.T) {
	const src = 100<<24 | 77<<16 | 5<<8 | 9
	for _, n := range lens {
		held := min(max(n, 0), 32)
		c := bogons(api.Prefix{Addr: src, Len: n})
		for bit := range 32 {
			a := uint32(src) ^ 1<<31>>bit
			if a >= 224<<24 && a < 240<<24 || a < 1<<24 {
				continue
			}
			if Source(c, a) != (bit < held) {
				t.Error(n, bit)
			}
		}
		if Source(c, src) {
			t.Error(n)
		}
	}
	for n := range 33 {
		p := first(src, n)
		if Source(bogons(p), src) || Source(bogons(p), last(p)) || n > 0 && !Source(bogons(first(src^1<<31>>(n-1), n)), src) {
			t.Error(n)
		}
	}
}

// full is a configuration that has some of all, with spare room behind its
// lists, in which stand things that would count if they were in the lists.
func full(t *testing.T) api.Config {
	t.Helper()
	c := ifaces(px(t, "10.0.0.1/8"), px(t, "20.0.0.1/30"), px(t, "30.0.0.1/24"), px(t, "40.0.0.1/24"))
	for i, name := range []string{"a", "b", "c", "d"} {
		c.Ifaces[i].Name, c.Ifaces[i].MTU, c.Ifaces[i].Rpf = name, 1500+i, i
	}
	c.Ifaces = c.Ifaces[:2]
	c.Bogons = []api.Prefix{px(t, "50.1.2.3/8"), px(t, "60.0.0.0/8"), px(t, "70.0.0.0/8")}[:1]
	c.Tables = []api.Named{{Name: "t", L: []api.Prefix{px(t, "80.0.0.0/8"), px(t, "90.0.0.0/8")}[:1]}, {Name: "u"}}[:1]
	c.Rules = []api.Rule{{Pass: true, On: "a"}, {Return: true}}[:1]
	c.Flows, c.Errors = 4, 5
	return c
}

// P13.2, W2, W6: no call changes the configuration, not even the spare room
// behind its lists, which doesn't count either; each answers the same again.
func TestConfigurationStays(t *testing.T) {
	c, want := full(t), full(t)
	for _, x := range []struct {
		s                    string
		own, broad, isSource bool
	}{
		{"10.0.0.1", true, false, false}, {"10.255.255.255", false, true, false}, {"10.0.0.2", false, false, true},
		{"20.0.0.1", true, false, false}, {"20.0.0.3", false, true, false}, {"20.0.0.2", false, false, true},
		{"30.0.0.1", false, false, true}, {"30.0.0.255", false, false, true}, {"40.0.0.1", false, false, true}, {"40.0.0.255", false, false, true},
		{"50.255.0.0", false, false, false}, {"60.0.0.0", false, false, true}, {"70.255.255.255", false, false, true},
		{"80.0.0.0", false, false, true}, {"90.0.0.1", false, false, true},
		{"0.0.0.0", false, false, false}, {"224.0.0.1", false, false, false}, {"255.255.255.255", false, true, false},
	} {
		a := ip(t, x.s)
		for range 2 {
			if Own(c, a) != x.own || Broadcast(c, a) != x.broad || Source(c, a) != x.isSource {
				t.Error(x.s, Own(c, a), Broadcast(c, a), Source(c, a))
			}
		}
	}
	for _, p := range []*api.Config{&c, &want} {
		p.Ifaces, p.Bogons, p.Tables, p.Rules = p.Ifaces[:4], p.Bogons[:3], p.Tables[:2], p.Rules[:2]
		p.Tables[0].L = p.Tables[0].L[:2]
	}
	if !reflect.DeepEqual(c, want) {
		t.Error(c)
	}
}

// P13.2: of many configurations and addresses each call is what the plain words
// say.
func TestConfigurations(t *testing.T) {
	r := rand.New(rand.NewSource(5))
	times := map[[3]bool]int{}
	for range 1000 {
		var nets, l []api.Prefix
		for range r.Intn(4) {
			p := api.Prefix{Addr: some(r), Len: r.Intn(33)}
			if r.Intn(4) == 0 {
				p.Addr = last(p)
			}
			nets = append(nets, p)
		}
		for range r.Intn(3) {
			l = append(l, api.Prefix{Addr: some(r), Len: r.Intn(33)})
		}
		c := ifaces(nets...)
		c.Bogons = l
		asked := []uint32{some(r), r.Uint32(), 0xe0000000 | some(r), most}
		for _, p := range slices.Concat(nets, l) {
			asked = append(asked, p.Addr, last(p), last(p)-1, last(p)+1, first(p.Addr, p.Len).Addr)
		}
		for _, a := range asked {
			own, broad, bogon := false, a == most, false
			for _, p := range nets {
				own = own || p.Addr == a
				broad = broad || p.Len < 31 && last(p) == a
			}
			for _, p := range l {
				bogon = bogon || first(p.Addr, p.Len) == first(a, p.Len)
			}
			source := a>>24 != 0 && (a>>24 < 224 || a>>24 > 239) && a != most && !own && !broad && !bogon
			if got, want := [3]bool{Own(c, a), Broadcast(c, a), Source(c, a)}, [3]bool{own, broad, source}; got != want {
				t.Fatalf("%s: %v, want %v, of %v", addr.Print(a), got, want, c)
			}
			times[[3]bool{own, broad, source}]++
		}
	}
	for _, x := range [][3]bool{{}, {true}, {false, true}, {true, true}, {false, false, true}} {
		if times[x] < 20 {
			t.Error(x, times[x])
		}
	}
}
