package rib

import (
	"fmt"
	"math"
	"math/rand"
	"slices"
	"testing"

	"castellan/addr"
	"castellan/api"
)

// name is what a way is told from others by.
type name struct {
	table, iface int
	prefix       api.Prefix
	gate         uint32
}

// plain is what is there, as the chapter's words have it: metrics by names.
// Every promise is told anew from this alone, by going through all of it.
type plain map[name]int

// nameOf is a way's name.
func nameOf(r api.Route) name {
	return name{table: r.Table, iface: r.Iface, prefix: r.Prefix, gate: r.Gate}
}

// way is a name with a metric.
func (n name) way(metric int) api.Route {
	return api.Route{Table: n.table, Prefix: n.prefix, Iface: n.iface, Gate: n.gate, Metric: metric}
}

// isPrefix is chapter 3's Is, in other words: no bit behind the first Len.
func isPrefix(p api.Prefix) bool {
	return p.Len >= 0 && p.Len <= 32 && uint64(p.Addr)%(1<<(32-p.Len)) == 0
}

// may is P11.1's Is.
func may(r api.Route) bool {
	return r.Table >= 0 && r.Table < 4 && isPrefix(r.Prefix) && r.Iface >= 0 && r.Iface < 8 && r.Metric >= 0 && r.Metric < 256
}

// add is P11.1's Add.
func (m plain) add(r api.Route) api.Errno {
	if !may(r) {
		return api.ErrArg
	}
	if _, ok := m[nameOf(r)]; !ok && len(m) == 256 {
		return api.ErrFull
	}
	m[nameOf(r)] = r.Metric
	return api.OK
}

// del is P11.1's Del.
func (m plain) del(r api.Route) api.Errno {
	if _, ok := m[nameOf(r)]; !ok {
		return api.ErrNone
	}
	delete(m, nameOf(r))
	return api.OK
}

// ahead tells whether the first of two unlike numbers in a row is the lesser.
func ahead(a, b []int64) bool {
	for i := range a {
		if a[i] != b[i] {
			return a[i] < b[i]
		}
	}
	return false
}

// place is the numbers that All's order goes by.
func place(r api.Route) []int64 {
	return []int64{int64(r.Table), int64(r.Prefix.Addr), int64(r.Prefix.Len), int64(r.Iface), int64(r.Gate)}
}

// worth is the numbers that Better goes by.
func worth(r api.Route) []int64 {
	return []int64{int64(r.Metric), int64(r.Iface), int64(r.Gate)}
}

// all is P11.1's All: each way stands behind as many as are ahead of it.
func (m plain) all() []api.Route {
	row := make([]api.Route, len(m))
	for n, metric := range m {
		r := n.way(metric)
		i := 0
		for other, its := range m {
			if ahead(place(other.way(its)), place(r)) {
				i++
			}
		}
		row[i] = r
	}
	return row
}

// best is P11.2's Best: the one than which none is better.
func (m plain) best(table int, p api.Prefix, up []bool) (api.Route, bool) {
	var can []api.Route
	for n, metric := range m {
		if n.table == table && n.prefix == p && n.iface < len(up) && up[n.iface] {
			can = append(can, n.way(metric))
		}
	}
	for _, r := range can {
		if !slices.ContainsFunc(can, func(o api.Route) bool { return ahead(worth(o), worth(r)) }) {
			return r, true
		}
	}
	return api.Route{}, false
}

// active is P11.2's Active.
func (m plain) active(table int, up []bool) []api.Route {
	var row []api.Route
	var last api.Prefix
	asked := false
	for _, r := range m.all() {
		if r.Table != table || asked && r.Prefix == last {
			continue
		}
		last, asked = r.Prefix, true
		if r, ok := m.best(table, r.Prefix, up); ok {
			row = append(row, r)
		}
	}
	return row
}

// holdBest holds Best against m.
func holdBest(t *testing.T, b *Rib, m plain, table int, p api.Prefix, up []bool) {
	t.Helper()
	r, ok := b.Best(table, p, up)
	if want, is := m.best(table, p, up); r != want || ok != is {
		t.Fatalf("Best(%d, %s, %v): %v, %v, want %v, %v, of %v", table, addr.PrintPrefix(p), up, r, ok, want, is, m)
	}
}

// holdActive holds Active against m.
func holdActive(t *testing.T, b *Rib, m plain, table int, up []bool) {
	t.Helper()
	if got, want := b.Active(table, up), m.active(table, up); !slices.Equal(got, want) {
		t.Fatalf("Active(%d, %v): %v, want %v, of %v", table, up, got, want, m)
	}
}

// hold holds all that b tells, with these interfaces up, against m.
func hold(t *testing.T, b *Rib, m plain, ups ...[]bool) {
	t.Helper()
	row := m.all()
	if got := b.All(); !slices.Equal(got, row) {
		t.Fatalf("All: %v, want %v", got, row)
	}
	for _, up := range ups {
		for table := -1; table <= api.MaxTables; table++ {
			holdActive(t, b, m, table, up)
		}
		for _, r := range row {
			holdBest(t, b, m, r.Table, r.Prefix, up)
		}
	}
}

// every is all that may be told of which interfaces are up by one bit each,
// with so many of them.
func every(ifaces int) [][]bool {
	var l [][]bool
	for bits := range 1 << ifaces {
		up := make([]bool, ifaces)
		for i := range up {
			up[i] = bits>>i&1 == 1
		}
		l = append(l, up)
	}
	return l
}

// allUp is so many interfaces that are up.
func allUp(ifaces int) []bool {
	return slices.Repeat([]bool{true}, ifaces)
}

// some is a few ways of looking at interfaces.
func some() [][]bool {
	return [][]bool{nil, {}, {false}, {true}, {false, true}, {true, false, true}, {false, false, false, false, false, false, false, true}, allUp(7), allUp(8), allUp(9), allUp(100)}
}

// px is a text as a prefix.
func px(t *testing.T, s string) api.Prefix {
	t.Helper()
	p, e := addr.ParsePrefix(s)
	if e != api.OK || !isPrefix(p) {
		t.Fatal(s)
	}
	return p
}

// of is one of these ways, and the same plainly.
func of(t *testing.T, ways ...api.Route) (*Rib, plain) {
	t.Helper()
	b, m := New(), plain{}
	for _, r := range ways {
		if e := b.Add(r); e != api.OK || m.add(r) != api.OK {
			t.Fatalf("Add(%v): %v", r, e)
		}
	}
	return b, m
}

// full is one of MaxPrefixes ways, which have all tables and interfaces and
// every second Gate.
func full(t *testing.T) (*Rib, plain) {
	t.Helper()
	var ways []api.Route
	for i := range api.MaxPrefixes {
		ways = append(ways, api.Route{Table: i % 4, Prefix: api.Prefix{Addr: uint32(i/4%4) << 24, Len: 8}, Iface: i / 16 % 8, Gate: uint32(2 * i), Metric: i})
	}
	return of(t, ways...)
}

// middle is a way that is at no end of anything.
func middle() api.Route {
	return api.Route{Table: 2, Prefix: api.Prefix{Addr: 10 << 24, Len: 8}, Iface: 4, Gate: 77, Metric: 100}
}

// twins is middle, each with one thing else by which a way is told from others.
func twins() []api.Route {
	var l []api.Route
	for _, change := range []func(r *api.Route){
		func(r *api.Route) { r.Table = 1 },
		func(r *api.Route) { r.Table = 3 },
		func(r *api.Route) { r.Prefix.Addr = 9 << 24 },
		func(r *api.Route) { r.Prefix.Addr = 11 << 24 },
		func(r *api.Route) { r.Prefix.Addr = 138 << 24 },
		func(r *api.Route) { r.Prefix.Len = 7 },
		func(r *api.Route) { r.Prefix.Len = 9 },
		func(r *api.Route) { r.Iface = 3 },
		func(r *api.Route) { r.Iface = 5 },
		func(r *api.Route) { r.Gate = 76 },
		func(r *api.Route) { r.Gate = 78 },
		func(r *api.Route) { r.Gate = 0 },
		func(r *api.Route) { r.Gate = math.MaxUint32 },
	} {
		r := middle()
		change(&r)
		l = append(l, r)
	}
	return l
}

// wrong is ways that may not be.
func wrong() []api.Route {
	var l []api.Route
	for _, n := range []int{-1, math.MinInt, math.MaxInt, 1 << 32, -1 << 32, 1000, -256, 256} {
		for _, change := range []func(r *api.Route){
			func(r *api.Route) { r.Table = n },
			func(r *api.Route) { r.Iface = n },
			func(r *api.Route) { r.Metric = n },
			func(r *api.Route) { r.Prefix.Len = n },
			func(r *api.Route) { r.Prefix = api.Prefix{Len: n} },
		} {
			r := middle()
			change(&r)
			l = append(l, r)
		}
	}
	for _, p := range []api.Prefix{{Addr: 10 << 24, Len: 6}, {Addr: 10 << 24, Len: 0}, {Addr: 10 << 24, Len: 33}, {Addr: 1, Len: 31}, {Addr: 1, Len: 0}, {Addr: math.MaxUint32, Len: 31}, {Addr: 10<<24 | 1, Len: 8}} {
		r := middle()
		r.Prefix = p
		l = append(l, r)
	}
	a, b, c := middle(), middle(), middle()
	a.Table, b.Iface, c.Metric = 4, 8, 256
	return append(l, a, b, c)
}

// P11.1, Is: of each field both ends, and one beyond them.
func TestIsAtEnds(t *testing.T) {
	if !Is(middle()) || !Is(api.Route{}) {
		t.Error("Is of one that may be")
	}
	for i, x := range []struct {
		top int
		set func(r *api.Route, n int)
	}{
		{3, func(r *api.Route, n int) { r.Table = n }},
		{7, func(r *api.Route, n int) { r.Iface = n }},
		{255, func(r *api.Route, n int) { r.Metric = n }},
		{32, func(r *api.Route, n int) { r.Prefix = api.Prefix{Len: n} }},
	} {
		for _, n := range []int{math.MinInt, -1 << 32, -x.top, -1, 0, 1, x.top - 1, x.top, x.top + 1, 1 << 8, 1 << 16, 1 << 32, math.MaxInt} {
			r := middle()
			x.set(&r, n)
			if got, want := Is(r), n >= 0 && n <= x.top; got != want {
				t.Errorf("field %d: Is with %d is %v", i, n, got)
			}
		}
	}
}

// P11.1, Is: the prefix is one that may be, whichever bits it has.
func TestIsAsksThePrefix(t *testing.T) {
	for n := -1; n <= 33; n++ {
		for _, a := range []uint32{0, 1, 1 << 31, 10 << 24, 10<<24 | 1<<16, 1 << 16, 1 << 15, math.MaxUint32, math.MaxUint32 - 1, math.MaxUint32 - 255} {
			r := middle()
			r.Prefix = api.Prefix{Addr: a, Len: n}
			if Is(r) != isPrefix(r.Prefix) {
				t.Errorf("Is with %x/%d: %v", a, n, Is(r))
			}
		}
	}
}

// P11.1, Is: a Gate is any.
func TestIsTakesAnyGate(t *testing.T) {
	for _, gate := range []uint32{0, 1, 10 << 24, 224 << 24, 1 << 31, math.MaxUint32} {
		r := middle()
		r.Gate = gate
		if !Is(r) || New().Add(r) != api.OK {
			t.Error(gate)
		}
	}
}

// P11.1, Is: every way that is wrong in one thing may not be; nor may one that
// is wrong in two.
func TestIsOfWrongWays(t *testing.T) {
	for _, r := range wrong() {
		if Is(r) {
			t.Error(r)
		}
		for _, o := range wrong() {
			both := r
			both.Table, both.Iface = o.Table, o.Iface
			if Is(both) != may(both) {
				t.Error(both)
			}
		}
	}
}

// P11.1, Add and Del: what may not be is refused, and nothing is changed by it.
func TestWrongWaysAreRefused(t *testing.T) {
	begins := []func() (*Rib, plain){
		func() (*Rib, plain) { return of(t) },
		func() (*Rib, plain) { return of(t, append(twins(), middle())...) },
		// ErrArg is named ahead of ErrFull.
		func() (*Rib, plain) { return full(t) },
	}
	for _, begin := range begins {
		b, m := begin()
		for _, r := range wrong() {
			if e := b.Add(r); e != api.ErrArg {
				t.Errorf("Add(%v): %v", r, e)
			}
		}
		hold(t, b, m, allUp(8))
	}
}

// P11.1, Del: one that may not be is not there; but its Metric is not asked for.
func TestDelOfWrongWays(t *testing.T) {
	for _, r := range wrong() {
		b, m := of(t, append(twins(), middle())...)
		want := m.del(r)
		if e := b.Del(r); e != want {
			t.Errorf("Del(%v): %v, want %v", r, e, want)
		}
		if is := r.Metric < 0 || r.Metric > 255; is != (want == api.OK) {
			t.Errorf("Del(%v) is asked for %v", r, want)
		}
		hold(t, b, m, allUp(8))
	}
}

// P11.1, Add: ways that are alike but for one of Table, Addr, Len, Iface and
// Gate are two.
func TestWaysAreToldApart(t *testing.T) {
	for _, r := range twins() {
		for _, row := range [][]api.Route{{r, middle()}, {middle(), r}} {
			b, m := of(t, row...)
			if len(b.All()) != 2 {
				t.Errorf("%v and %v are %d", row[0], row[1], len(b.All()))
			}
			hold(t, b, m, some()...)
		}
	}
	b, m := of(t, append(twins(), middle())...)
	if len(b.All()) != len(twins())+1 {
		t.Error(len(b.All()))
	}
	hold(t, b, m, some()...)
}

// P11.1, Add: where the way is there, its Metric becomes another, lesser or
// greater, and no other way's does.
func TestAddAgain(t *testing.T) {
	for _, r := range append(twins(), middle()) {
		b, m := of(t, append(twins(), middle())...)
		for _, metric := range []int{100, 101, 99, 255, 0, 100} {
			r.Metric = metric
			if e := b.Add(r); e != api.OK || m.add(r) != api.OK {
				t.Errorf("Add(%v): %v", r, e)
			}
			if n := len(b.All()); n != len(twins())+1 {
				t.Errorf("Add(%v): now %d ways", r, n)
			}
			hold(t, b, m, allUp(8))
		}
	}
}

// P11.1, Add: an error is answered ahead of a way that is there, and leaves its
// Metric.
func TestAddAgainWithAWrongMetric(t *testing.T) {
	b, m := of(t, middle())
	for _, metric := range []int{-1, 256, math.MinInt, math.MaxInt} {
		r := middle()
		r.Metric = metric
		if e := b.Add(r); e != api.ErrArg {
			t.Errorf("Add with metric %d: %v", metric, e)
		}
		hold(t, b, m, allUp(8))
	}
}

// P11.1, Add: MaxPrefixes ways are all that may be, in all tables together; one
// that is there may become another's Metric still.
func TestFull(t *testing.T) {
	b, m := full(t)
	if len(b.All()) != api.MaxPrefixes {
		t.Fatal(len(b.All()))
	}
	for _, r := range append(twins(), middle(), api.Route{Gate: 1}, api.Route{Table: 3, Prefix: api.Prefix{Addr: math.MaxUint32, Len: 32}, Iface: 7, Gate: math.MaxUint32, Metric: 255}) {
		if e := b.Add(r); e != api.ErrFull {
			t.Errorf("Add(%v): %v", r, e)
		}
	}
	hold(t, b, m, allUp(8), []bool{true, false, true})
	for _, r := range b.All() {
		r.Metric = 255 - r.Metric
		if e := b.Add(r); e != api.OK || m.add(r) != api.OK {
			t.Errorf("Add(%v): %v", r, e)
		}
	}
	hold(t, b, m, allUp(8), []bool{true, false, true})
}

// P11.1, Add: not one fewer than MaxPrefixes, and not one more.
func TestFullAtItsEdge(t *testing.T) {
	b := New()
	for i := range 2 * api.MaxPrefixes {
		want := api.OK
		if i >= 256 {
			want = api.ErrFull
		}
		if e := b.Add(api.Route{Gate: uint32(i)}); e != want || len(b.All()) != min(i+1, 256) {
			t.Fatal(i, e)
		}
	}
}

// P11.1, Del: what was refused for want of room goes in behind it, but no two.
func TestRoomBehindDel(t *testing.T) {
	b, m := full(t)
	for i, r := range b.All() {
		if e := b.Del(r); e != api.OK || m.del(r) != api.OK {
			t.Fatalf("Del(%v): %v", r, e)
		}
		if e := b.Del(r); e != api.ErrNone {
			t.Fatalf("Del(%v) again: %v", r, e)
		}
		comes := api.Route{Prefix: api.Prefix{Addr: 99 << 24, Len: 8}, Gate: uint32(1 + i), Metric: 3}
		if e := b.Add(comes); e != api.OK || m.add(comes) != api.OK {
			t.Fatalf("Add(%v): %v", comes, e)
		}
		if e := b.Add(r); e != api.ErrFull {
			t.Fatalf("Add(%v): %v", r, e)
		}
	}
	hold(t, b, m, allUp(8))
}

// P11.1, Del: a way that is like one that is there but for one thing is not
// there; all that is there stays.
func TestDelOfWhatIsNotThere(t *testing.T) {
	b, m := of(t, middle())
	for _, r := range twins() {
		if e := b.Del(r); e != api.ErrNone {
			t.Errorf("Del(%v): %v", r, e)
		}
	}
	hold(t, b, m, allUp(8))
	if e := New().Del(api.Route{}); e != api.ErrNone {
		t.Error("Del of none", e)
	}
	if e := new(Rib).Del(middle()); e != api.ErrNone {
		t.Error("Del of none", e)
	}
}

// P11.1, Del: it is not there then, whatever its Metric is said to be, and all
// others stay.
func TestDel(t *testing.T) {
	for _, r := range append(twins(), middle()) {
		for _, metric := range []int{100, 0, 255, -1, 256, math.MinInt, math.MaxInt} {
			b, m := of(t, append(twins(), middle())...)
			r.Metric = metric
			if e := b.Del(r); e != api.OK || m.del(r) != api.OK {
				t.Errorf("Del(%v): %v", r, e)
			}
			hold(t, b, m, allUp(8))
			if e := b.Del(r); e != api.ErrNone {
				t.Errorf("Del(%v) again: %v", r, e)
			}
			hold(t, b, m, allUp(8))
		}
	}
}

// P11.1: a way that went and comes again has the Metric with which it comes.
func TestDelForgets(t *testing.T) {
	b, m := of(t, middle())
	r := middle()
	b.Del(r)
	if len(b.All()) != 0 || len(b.Active(r.Table, allUp(8))) != 0 {
		t.Error("still there")
	}
	r.Metric = 200
	if e := b.Add(r); e != api.OK || m.add(r) != api.OK {
		t.Error(e)
	}
	hold(t, b, m, allUp(8))
}

// P11.1, All: by Table, Addr, Len, Iface and Gate, each of which counts more
// than all behind it; not by Metric.
func TestOrder(t *testing.T) {
	row := []api.Route{
		{Prefix: px(t, "0.0.0.0/0"), Iface: 7, Gate: math.MaxUint32, Metric: 255},
		{Prefix: px(t, "0.0.0.0/32"), Iface: 7, Gate: 1, Metric: 0},
		{Prefix: px(t, "9.0.0.0/8"), Iface: 1, Gate: 1 << 31, Metric: 9},
		{Prefix: px(t, "10.0.0.0/7"), Iface: 7, Gate: 9, Metric: 9},
		{Prefix: px(t, "10.0.0.0/8"), Iface: 0, Gate: 9, Metric: 9},
		{Prefix: px(t, "10.0.0.0/8"), Iface: 1, Gate: 5, Metric: 9},
		{Prefix: px(t, "10.0.0.0/8"), Iface: 1, Gate: 6, Metric: 8},
		{Prefix: px(t, "10.0.0.0/8"), Iface: 1, Gate: 1 << 31, Metric: 7},
		{Prefix: px(t, "10.0.0.0/8"), Iface: 1, Gate: math.MaxUint32, Metric: 6},
		{Prefix: px(t, "10.0.0.0/8"), Iface: 2, Gate: 0, Metric: 5},
		{Prefix: px(t, "10.0.0.0/10"), Iface: 0, Gate: 0, Metric: 0},
		{Prefix: px(t, "128.0.0.0/1"), Iface: 0, Gate: 0, Metric: 0},
		{Prefix: px(t, "255.255.255.255/32"), Iface: 7, Gate: 7, Metric: 7},
		{Table: 1, Prefix: px(t, "0.0.0.0/0"), Iface: 0, Gate: 0, Metric: 0},
		{Table: 3, Prefix: px(t, "0.0.0.0/0"), Iface: 0, Gate: 0, Metric: 0},
	}
	rnd := rand.New(rand.NewSource(1))
	for range 300 {
		mixed := slices.Clone(row)
		rnd.Shuffle(len(mixed), func(i, k int) { mixed[i], mixed[k] = mixed[k], mixed[i] })
		b, _ := of(t, mixed...)
		if got := b.All(); !slices.Equal(got, row) {
			t.Fatalf("All: %v, laid as %v", got, mixed)
		}
	}
}

// P11.1, All: of none no way; also of one that New did not make.
func TestNone(t *testing.T) {
	for _, b := range []*Rib{New(), {}, New().Copy(), new(Rib).Copy()} {
		if len(b.All()) != 0 || len(b.Active(0, allUp(8))) != 0 {
			t.Error("ways of none")
		}
		if r, ok := b.Best(0, api.Prefix{}, allUp(8)); ok || r != (api.Route{}) {
			t.Error("Best of none", r, ok)
		}
		if e := b.Add(middle()); e != api.OK || !slices.Equal(b.All(), []api.Route{middle()}) {
			t.Error(e)
		}
	}
	if New() == New() {
		t.Error("New is one and the same")
	}
}

// P11.2, Better: Metric counts more than Iface, Iface more than Gate; nothing
// else counts, and nothing wraps, whatever the numbers are.
func TestBetter(t *testing.T) {
	var l []api.Route
	numbers := []int{math.MinInt, math.MinInt + 1, -1, 0, 1, 7, 255, math.MaxInt - 1, math.MaxInt}
	for _, metric := range numbers {
		for _, iface := range numbers {
			for _, gate := range []uint32{0, 1, 1<<31 - 1, 1 << 31, math.MaxUint32} {
				l = append(l, api.Route{Metric: metric, Iface: iface, Gate: gate})
			}
		}
	}
	// They are laid out from the best to the worst.
	for i, a := range l {
		a.Table, a.Prefix = 5, api.Prefix{Addr: 5, Len: 40}
		for k, b := range l {
			if Better(a, b) != (i < k) || Better(b, a) != (k < i) {
				t.Fatalf("Better(%v, %v): %v, the other way round %v", a, b, Better(a, b), Better(b, a))
			}
		}
	}
}

// P11.2, Better: of two that are alike in all three neither is, whatever Table
// and Prefix they have.
func TestBetterOfAlikeOnes(t *testing.T) {
	a := middle()
	for _, x := range []struct {
		table int
		p     api.Prefix
	}{{2, a.Prefix}, {1, a.Prefix}, {3, a.Prefix}, {2, api.Prefix{}}, {2, api.Prefix{Addr: math.MaxUint32, Len: 32}}, {math.MinInt, api.Prefix{Len: math.MinInt}}} {
		b := a
		b.Table, b.Prefix = x.table, x.p
		if Better(a, b) || Better(b, a) {
			t.Error(a, b)
		}
	}
}

// P11.2: the example of the chapter.
func TestExample(t *testing.T) {
	p := px(t, "10.0.0.0/8")
	by0 := api.Route{Prefix: p, Iface: 0, Metric: 5}
	by1 := api.Route{Prefix: p, Iface: 1, Metric: 3}
	b, _ := of(t, by0, by1)
	for _, x := range []struct {
		up   []bool
		want api.Route
		ok   bool
	}{
		{[]bool{true, true}, by1, true},
		{[]bool{false, true}, by1, true},
		{[]bool{true, false}, by0, true},
		{[]bool{true}, by0, true},
		{[]bool{false, false}, api.Route{}, false},
		{[]bool{false}, api.Route{}, false},
		{nil, api.Route{}, false},
	} {
		if r, ok := b.Best(0, p, x.up); r != x.want || ok != x.ok {
			t.Errorf("Best with %v: %v, %v", x.up, r, ok)
		}
	}
}

// P11.2, Best: with every set of interfaces that are up, told whole or cut off
// anywhere, of ways that are alike in Metric, in Iface or in neither.
func TestBestOfEverySet(t *testing.T) {
	p := px(t, "10.0.0.0/8")
	b, m := New(), plain{}
	for i, metric := range []int{9, 4, 4, 0, 255, 4, 1, 1} {
		for _, gate := range []uint32{7, 3, math.MaxUint32} {
			r := api.Route{Table: 1, Prefix: p, Iface: i, Gate: gate, Metric: metric}
			if gate == 3 && i%2 == 0 {
				r.Metric = 4
			}
			if e := b.Add(r); e != api.OK || m.add(r) != api.OK {
				t.Fatal(e)
			}
		}
	}
	for n := range 10 {
		for _, up := range every(n) {
			holdBest(t, b, m, 1, p, up)
			holdActive(t, b, m, 1, up)
		}
	}
}

// P11.2, Best: of tables and prefixes that are not there, or may not be.
func TestBestOfWhatIsNotThere(t *testing.T) {
	b, m := of(t, append(twins(), middle())...)
	var tables []int
	var prefixes []api.Prefix
	for _, r := range append(wrong(), append(twins(), middle(), api.Route{})...) {
		tables = append(tables, r.Table)
		prefixes = append(prefixes, r.Prefix)
	}
	prefixes = append(prefixes, px(t, "10.0.0.0/16"), px(t, "10.0.0.0/32"), px(t, "255.255.255.255/32"), px(t, "0.0.0.0/32"))
	for _, table := range tables {
		for _, p := range prefixes {
			holdBest(t, b, m, table, p, allUp(8))
		}
	}
	if r, ok := b.Best(2, api.Prefix{Addr: 10<<24 | 1, Len: 8}, allUp(8)); ok || r != (api.Route{}) {
		t.Error("Best of a prefix with other bits", r, ok)
	}
}

// P11.2, Best: prefixes that cover one another are looked at each by itself.
func TestBestOfThePrefixAlone(t *testing.T) {
	b, m := New(), plain{}
	for n := range 33 {
		r := api.Route{Prefix: addr.Norm(api.Prefix{Addr: 10<<24 | 1, Len: n}), Iface: n % 3, Metric: 255 - n}
		if e := b.Add(r); e != api.OK || m.add(r) != api.OK {
			t.Fatal(e)
		}
	}
	hold(t, b, m, every(3)...)
	for n := range 33 {
		r, ok := b.Best(0, addr.Norm(api.Prefix{Addr: 10<<24 | 1, Len: n}), allUp(3))
		if !ok || r.Metric != 255-n {
			t.Error(n, r, ok)
		}
	}
}

// P11.2, Active: each prefix of the table once, in order, by its best way, but
// for those that have none that is up.
func TestActive(t *testing.T) {
	low, mid, high := px(t, "9.0.0.0/8"), px(t, "10.0.0.0/8"), px(t, "10.0.0.0/9")
	b, m := of(t,
		api.Route{Prefix: high, Iface: 0, Gate: 1, Metric: 1},
		api.Route{Prefix: mid, Iface: 1, Gate: 2, Metric: 9},
		api.Route{Prefix: mid, Iface: 0, Gate: 2, Metric: 9},
		api.Route{Prefix: mid, Iface: 0, Gate: 1, Metric: 9},
		api.Route{Prefix: low, Iface: 2, Metric: 0},
		api.Route{Table: 1, Prefix: mid, Iface: 2, Metric: 0},
	)
	for _, x := range []struct {
		table int
		up    []bool
		want  []api.Route
	}{
		{0, allUp(3), []api.Route{{Prefix: low, Iface: 2}, {Prefix: mid, Gate: 1, Metric: 9}, {Prefix: high, Gate: 1, Metric: 1}}},
		{0, []bool{false, true, true}, []api.Route{{Prefix: low, Iface: 2}, {Prefix: mid, Iface: 1, Gate: 2, Metric: 9}}},
		{0, []bool{true}, []api.Route{{Prefix: mid, Gate: 1, Metric: 9}, {Prefix: high, Gate: 1, Metric: 1}}},
		{0, nil, nil},
		{0, make([]bool, 8), nil},
		{1, allUp(3), []api.Route{{Table: 1, Prefix: mid, Iface: 2}}},
		{1, allUp(2), nil},
		{2, allUp(8), nil},
		{3, allUp(8), nil},
		{4, allUp(8), nil},
		{-1, allUp(8), nil},
		{math.MinInt, allUp(8), nil},
		{math.MaxInt, allUp(8), nil},
		{1 << 32, allUp(8), nil},
	} {
		if got := b.Active(x.table, x.up); !slices.Equal(got, x.want) {
			t.Errorf("Active(%d, %v): %v", x.table, x.up, got)
		}
	}
	hold(t, b, m, every(3)...)
}

// P11.2, Active: of as many as may be, in one table and in all four.
func TestActiveOfMany(t *testing.T) {
	b, m := full(t)
	hold(t, b, m, some()...)
	b, m = New(), plain{}
	for i := range api.MaxPrefixes {
		r := api.Route{Table: 3, Prefix: api.Prefix{Addr: uint32(255-i) << 24, Len: 8}, Iface: i % 8, Metric: i}
		if e := b.Add(r); e != api.OK || m.add(r) != api.OK {
			t.Fatal(e)
		}
	}
	for _, up := range some() {
		holdActive(t, b, m, 3, up)
	}
	if n := len(b.Active(3, allUp(8))); n != api.MaxPrefixes {
		t.Error(n)
	}
}

// P11.1 and P11.2: long rows of calls with few names, so that ways come, come
// again and go, are told as the words have it at every step; with many names,
// so that there is no more room.
func TestRows(t *testing.T) {
	for seed, names := range []uint32{2, 2, 3, 40, 40} {
		rnd := rand.New(rand.NewSource(int64(seed)))
		b, m := New(), plain{}
		steps, look := 2500, 1
		if names > 3 {
			steps, look = 2500, 250
		}
		for i := range steps {
			r := random(rnd, names)
			if rnd.Intn(3) == 0 {
				if e, want := b.Del(r), m.del(r); e != want {
					t.Fatalf("Del(%v): %v, want %v", r, e, want)
				}
			} else if e, want := b.Add(r), m.add(r); e != want {
				t.Fatalf("Add(%v): %v, want %v", r, e, want)
			}
			holdBest(t, b, m, r.Table, r.Prefix, randomUp(rnd))
			if i%look == 0 {
				hold(t, b, m, randomUp(rnd))
			}
		}
		if most := len(m); (most > 200) != (names > 3) {
			t.Errorf("%d names: %d ways", names, most)
		}
	}
}

// random is a way of one among some names; now and then one that may not be.
func random(rnd *rand.Rand, names uint32) api.Route {
	r := api.Route{
		Table:  rnd.Intn(2) * 3,
		Prefix: api.Prefix{Addr: 10 << 24, Len: 8 + rnd.Intn(2)},
		Iface:  rnd.Intn(2) * 7,
		Gate:   rnd.Uint32() % names,
		Metric: rnd.Intn(3),
	}
	if rnd.Intn(10) == 0 {
		bad := wrong()
		return bad[rnd.Intn(len(bad))]
	}
	return r
}

// randomUp is some interfaces, up or not.
func randomUp(rnd *rand.Rand) []bool {
	up := make([]bool, rnd.Intn(10))
	for i := range up {
		up[i] = rnd.Intn(3) > 0
	}
	return up
}

// P11.2, Copy: another one like it, which goes on by itself.
func TestCopy(t *testing.T) {
	for _, begin := range []func(t *testing.T) (*Rib, plain){
		func(t *testing.T) (*Rib, plain) { return of(t) },
		func(t *testing.T) (*Rib, plain) { return of(t, middle()) },
		func(t *testing.T) (*Rib, plain) { return of(t, append(twins(), middle())...) },
		full,
	} {
		for _, which := range []int{0, 1} {
			b, m := begin(t)
			two := []*Rib{b, b.Copy()}
			hold(t, two[1], m, some()...)
			stays, goes := two[which], two[1-which]
			_, other := begin(t)
			changeAll(t, goes, other)
			hold(t, stays, m, allUp(8))
			hold(t, goes, other, allUp(8))
			changeAll(t, stays, m)
			hold(t, stays, m, allUp(8))
			hold(t, goes, other, allUp(8))
		}
	}
}

// changeAll gives all ways another Metric, takes every third away, and lays
// others ahead of all, among them and behind them.
func changeAll(t *testing.T, b *Rib, m plain) {
	t.Helper()
	for i, r := range b.All() {
		r.Metric = (r.Metric + 1) % 256
		if e, want := b.Add(r), m.add(r); e != want {
			t.Fatal(e)
		}
		if i%3 == 0 {
			if e, want := b.Del(r), m.del(r); e != want {
				t.Fatal(e)
			}
		}
	}
	for _, r := range []api.Route{{}, {Table: 1, Gate: 9}, {Table: 3, Prefix: api.Prefix{Addr: math.MaxUint32, Len: 32}, Iface: 7, Gate: 4}} {
		if e, want := b.Add(r), m.add(r); e != want {
			t.Fatal(e)
		}
	}
}

// P11.2, Copy: a copy of a copy is one more, and a full one's copy is full.
func TestCopyOfCopy(t *testing.T) {
	b, m := full(t)
	c := b.Copy()
	d := c.Copy()
	c.Del(c.All()[0])
	hold(t, b, m, allUp(8))
	hold(t, d, m, allUp(8))
	if b.Add(middle()) != api.ErrFull || d.Add(middle()) != api.ErrFull || c.Add(middle()) != api.OK {
		t.Error("room")
	}
}

// W6, W7: what All and Active answered is the caller's own, spare room too, and
// stays what it is.
func TestAnswersAreNew(t *testing.T) {
	b, m := of(t, append(twins(), middle())...)
	asks := []func() []api.Route{
		b.All,
		func() []api.Route { return b.Active(2, allUp(8)) },
		func() []api.Route { return b.Copy().All() },
	}
	for i, ask := range asks {
		first, second := ask(), ask()
		was := slices.Clone(first)
		// What is written into one is told nowhere else.
		second = second[:cap(second)]
		for k := range second {
			second[k] = api.Route{Table: 9, Iface: 9, Metric: 9}
		}
		if !slices.Equal(first, was) {
			t.Errorf("ask %d: two answers share", i)
		}
		hold(t, b, m, allUp(8))
		if !slices.Equal(ask(), was) {
			t.Errorf("ask %d: kept", i)
		}
	}
	var before [][]api.Route
	var was [][]api.Route
	for _, ask := range asks {
		l := ask()
		before = append(before, l)
		was = append(was, slices.Clone(l))
	}
	changeAll(t, b, m)
	for i := range before {
		if !slices.Equal(before[i], was[i]) {
			t.Errorf("ask %d: changed by what was called later", i)
		}
	}
	// What a row had spare is not where the next way is laid.
	for i := range before {
		spare := before[i][len(before[i]):cap(before[i])]
		for k := range spare {
			spare[k] = api.Route{Table: 9}
		}
	}
	hold(t, b, m, allUp(8))
}

// W6: up is neither changed nor kept, nor read behind its end.
func TestUpIsLeftAlone(t *testing.T) {
	b, m := of(t, append(twins(), middle())...)
	room := allUp(16)
	for n := range 9 {
		up := room[:n]
		holdBest(t, b, m, 2, middle().Prefix, up)
		holdActive(t, b, m, 2, up)
	}
	if !slices.Equal(room, allUp(16)) {
		t.Error("changed", room)
	}
	up := allUp(8)
	was := b.Active(2, up)
	clear(up)
	if len(b.Active(2, up)) != 0 || !slices.Equal(b.Active(2, allUp(8)), was) {
		t.Error("kept")
	}
}

// P11.3: the same ways laid in another order, with others that came and went and
// with other Metrics in between, are told alike.
func TestHangsOnWhatIsThereAlone(t *testing.T) {
	_, m := full(t)
	row := m.all()
	rnd := rand.New(rand.NewSource(7))
	for _, n := range []int{0, 1, 2, 5, 60, 255, 256} {
		first, want := of(t, row[:n]...)
		hold(t, first, want, allUp(8), []bool{false, true})
		for range 3 {
			b := roundabout(t, rnd, row[:n])
			if !slices.Equal(b.All(), first.All()) {
				t.Fatalf("%d: All %v", n, b.All())
			}
			for _, up := range some() {
				for table := range api.MaxTables {
					if !slices.Equal(b.Active(table, up), first.Active(table, up)) {
						t.Fatalf("%d: Active(%d, %v) %v", n, table, up, b.Active(table, up))
					}
				}
			}
			if b.Add(middle()) != first.Copy().Add(middle()) {
				t.Errorf("%d: Add", n)
			}
		}
	}
}

// roundabout is one of these ways, come to by detours.
func roundabout(t *testing.T, rnd *rand.Rand, ways []api.Route) *Rib {
	t.Helper()
	b := New()
	for _, i := range rnd.Perm(len(ways)) {
		other := ways[i]
		other.Metric = rnd.Intn(256)
		if e := b.Add(other); e != api.OK {
			t.Fatal(e)
		}
		if guest := (api.Route{Table: rnd.Intn(4), Gate: 1}); b.Add(guest) == api.OK && b.Del(guest) != api.OK {
			t.Fatal("a guest stays")
		}
		if rnd.Intn(4) == 0 && b.Del(other) != api.OK {
			t.Fatal("Del")
		}
	}
	for _, i := range rnd.Perm(len(ways)) {
		if e := b.Add(ways[i]); e != api.OK {
			t.Fatal(e)
		}
	}
	return b
}

// P11.3: what asks changes nothing.
func TestAskingChangesNothing(t *testing.T) {
	b, m := full(t)
	for range 3 {
		hold(t, b, m, some()...)
		b.Copy().Del(b.All()[0])
	}
}

// P11.3: a nil Rib is one to which nothing happens.
func TestNil(t *testing.T) {
	var b *Rib
	for _, r := range append(wrong(), api.Route{}, middle()) {
		if e := b.Add(r); e != api.ErrArg {
			t.Error("Add", e)
		}
		if e := b.Del(r); e != api.ErrArg {
			t.Error("Del", e)
		}
		if best, ok := b.Best(r.Table, r.Prefix, allUp(8)); ok || best != (api.Route{}) {
			t.Error("Best", best, ok)
		}
		if len(b.Active(r.Table, allUp(8))) != 0 || len(b.Active(r.Table, nil)) != 0 {
			t.Error("Active")
		}
	}
	if len(b.All()) != 0 || b.Copy() != nil {
		t.Error("All, Copy")
	}
}

// P11.1: the limits are those that package api names.
func TestLimits(t *testing.T) {
	got := fmt.Sprint(api.MaxTables, api.MaxIfaces, api.MaxMetric, api.MaxPrefixes)
	if got != "4 8 255 256" {
		t.Error(got)
	}
}
