package fib

import (
	"math"
	"math/rand"
	"slices"
	"testing"

	"castellan/addr"
	"castellan/api"
)

// name is what a way is told from others by.
type name struct {
	table, iface int
	prefix       api.Prefix
	gate         uint32
}

// plain is what is there, as the chapters' words have it: metrics by names, and
// which interfaces are up. Every promise is told anew from this alone, by going
// through all of it.
type plain struct {
	ways map[name]int
	up   []bool
}

// none is P12.1's New.
func none(ifaces int) *plain {
	m := &plain{ways: map[name]int{}}
	for i := range 8 {
		if i < ifaces {
			m.up = append(m.up, true)
		}
	}
	return m
}

// like is another one like m.
func (m *plain) like() *plain {
	n := &plain{ways: map[name]int{}, up: slices.Clone(m.up)}
	for k, metric := range m.ways {
		n.ways[k] = metric
	}
	return n
}

// nameOf is a way's name.
func nameOf(r api.Route) name {
	return name{table: r.Table, iface: r.Iface, prefix: r.Prefix, gate: r.Gate}
}

// first is an address's first n bits, as a prefix.
func first(a uint32, n int) api.Prefix {
	return api.Prefix{Addr: uint32(uint64(a) >> (32 - n) << (32 - n)), Len: n}
}

// last is a prefix's last address.
func last(p api.Prefix) uint32 {
	return uint32(uint64(p.Addr) + 1<<(32-p.Len) - 1)
}

// isPrefix is chapter 3's Is, in other words: no bit behind the first Len.
func isPrefix(p api.Prefix) bool {
	return p.Len >= 0 && p.Len <= 32 && first(p.Addr, p.Len) == p
}

// may is P11.1's Is.
func may(r api.Route) bool {
	return r.Table >= 0 && r.Table < 4 && isPrefix(r.Prefix) && r.Iface >= 0 && r.Iface < 8 && r.Metric >= 0 && r.Metric < 256
}

// order is the numbers that All's order goes by.
func order(r api.Route) []int64 {
	return []int64{int64(r.Table), int64(r.Prefix.Addr), int64(r.Prefix.Len), int64(r.Iface), int64(r.Gate)}
}

// worth is the numbers that P12.2's choice goes by: of prefixes the longest, of
// its ways the best.
func worth(r api.Route) []int64 {
	return []int64{-int64(r.Prefix.Len), int64(r.Metric), int64(r.Iface), int64(r.Gate)}
}

// all is P11.1's All.
func (m *plain) all() []api.Route {
	var row []api.Route
	for k, metric := range m.ways {
		row = append(row, api.Route{Table: k.table, Prefix: k.prefix, Iface: k.iface, Gate: k.gate, Metric: metric})
	}
	slices.SortFunc(row, func(a, b api.Route) int { return slices.Compare(order(a), order(b)) })
	return row
}

// upWays is a table's ways that are up, of all prefixes.
func (m *plain) upWays(table int) []api.Route {
	var row []api.Route
	for _, r := range m.all() {
		if r.Table == table && m.up[r.Iface] {
			row = append(row, r)
		}
	}
	return row
}

// look is P12.2's Look, of a table's ways that are up.
func look(ways []api.Route, a uint32) (api.Route, bool) {
	var best api.Route
	ok := false
	for _, r := range ways {
		if first(a, r.Prefix.Len) == r.Prefix && (!ok || slices.Compare(worth(r), worth(best)) < 0) {
			best, ok = r, true
		}
	}
	return best, ok
}

// owned is P12.2's Blocks, of a table's ways that are up: of upper halves that
// have a prefix longer than 16, and of upper 24 bits that have one longer than
// 24.
func owned(ways []api.Route) int {
	halves, more := map[uint32]int{}, map[uint32]int{}
	for _, r := range ways {
		if r.Prefix.Len >= 17 {
			halves[r.Prefix.Addr/65536]++
		}
		if r.Prefix.Len >= 25 {
			more[r.Prefix.Addr/256]++
		}
	}
	return len(halves) + len(more)
}

// become is m as n, if no table of n owns too many blocks.
func (m *plain) become(n *plain) api.Errno {
	for table := range 4 {
		if owned(n.upWays(table)) > 16 {
			return api.ErrFull
		}
	}
	*m = *n
	return api.OK
}

// add is P12.1's Add.
func (m *plain) add(r api.Route) api.Errno {
	if r.Iface < 0 || r.Iface >= len(m.up) || !may(r) {
		return api.ErrArg
	}
	if _, ok := m.ways[nameOf(r)]; !ok && len(m.ways) == 256 {
		return api.ErrFull
	}
	n := m.like()
	n.ways[nameOf(r)] = r.Metric
	return m.become(n)
}

// del is P12.1's Del.
func (m *plain) del(r api.Route) api.Errno {
	if _, ok := m.ways[nameOf(r)]; !ok {
		return api.ErrNone
	}
	delete(m.ways, nameOf(r))
	return api.OK
}

// setUp is P12.1's SetUp.
func (m *plain) setUp(iface int, up bool) api.Errno {
	if iface < 0 || iface >= len(m.up) {
		return api.ErrArg
	}
	n := m.like()
	n.up[iface] = up
	return m.become(n)
}

// tables is all tables, and numbers of none.
func tables() []int {
	return []int{0, 1, 2, 3, -1, 4, math.MinInt, math.MaxInt, 1 << 32, -1 << 32, 1<<32 + 1}
}

// ends is a prefix's first and last address, and those beside it.
func ends(p api.Prefix) []uint32 {
	return []uint32{p.Addr, last(p), p.Addr - 1, last(p) + 1}
}

// holdAddress holds what f tells of an address against this way.
func holdAddress(t *testing.T, f *Fib, table int, a uint32, want api.Route, is bool) {
	t.Helper()
	for i, ask := range []func(int, uint32) (api.Route, bool){f.Look, f.ByTrie, f.ByDir} {
		if r, ok := ask(table, a); r != want || ok != is {
			t.Fatalf("%d: table %d, %s: %v, %v, want %v, %v", i, table, addr.Print(a), r, ok, want, is)
		}
	}
}

// hold holds all that f tells against m: also of the ends of these prefixes.
func hold(t *testing.T, f *Fib, m *plain, also ...api.Prefix) {
	t.Helper()
	if got := f.Up(); !slices.Equal(got, m.up) {
		t.Fatalf("Up: %v, want %v", got, m.up)
	}
	row := m.all()
	if got := f.All(); !slices.Equal(got, row) {
		t.Fatalf("All: %v, want %v", got, row)
	}
	asked := map[uint32]int{0: 1, 10<<24 | 1: 1, math.MaxUint32: 1}
	for _, r := range row {
		also = append(also, r.Prefix)
	}
	for _, p := range also {
		for _, a := range ends(p) {
			asked[a]++
		}
	}
	for _, table := range tables() {
		up := m.upWays(table)
		if got, want := f.Blocks(table), owned(up); got != want {
			t.Fatalf("Blocks(%d): %d, want %d, of %v", table, got, want, row)
		}
		for a := range asked {
			want, is := look(up, a)
			holdAddress(t, f, table, a, want, is)
		}
	}
}

// mustAdd lays a way that goes in, in both.
func mustAdd(t *testing.T, f *Fib, m *plain, l ...api.Route) {
	t.Helper()
	for _, r := range l {
		if e := f.Add(r); e != api.OK || m.add(r) != api.OK {
			t.Fatalf("Add(%v): %v", r, e)
		}
	}
}

// mustSet sets an interface, which goes, in both.
func mustSet(t *testing.T, f *Fib, m *plain, iface int, up bool) {
	t.Helper()
	if e := f.SetUp(iface, up); e != api.OK || m.setUp(iface, up) != api.OK {
		t.Fatalf("SetUp(%d, %v): %v", iface, up, e)
	}
}

// mustDel takes a way away that is there, in both.
func mustDel(t *testing.T, f *Fib, m *plain, r api.Route) {
	t.Helper()
	if e := f.Del(r); e != api.OK || m.del(r) != api.OK {
		t.Fatalf("Del(%v): %v", r, e)
	}
}

// refuse lays a way that is answered by this error and changes nothing, as both
// have it.
func refuse(t *testing.T, f *Fib, m *plain, r api.Route, want api.Errno) {
	t.Helper()
	if e := m.add(r); e != want {
		t.Fatalf("the words have it that Add(%v) is %v", r, e)
	}
	if e := f.Add(r); e != want {
		t.Fatalf("Add(%v): %v, want %v", r, e, want)
	}
	if isPrefix(r.Prefix) {
		hold(t, f, m, r.Prefix)
	} else {
		hold(t, f, m)
	}
}

// refuseSet sets an interface, which is answered by this error and changes
// nothing, as both have it.
func refuseSet(t *testing.T, f *Fib, m *plain, iface int, up bool, want api.Errno) {
	t.Helper()
	if e := m.setUp(iface, up); e != want {
		t.Fatalf("the words have it that SetUp(%d, %v) is %v", iface, up, e)
	}
	if e := f.SetUp(iface, up); e != want {
		t.Fatalf("SetUp(%d, %v): %v, want %v", iface, up, e, want)
	}
	hold(t, f, m)
}

// px is a text as a prefix.
func px(t *testing.T, s string) api.Prefix {
	t.Helper()
	p, e := addr.ParsePrefix(s)
	if e != api.OK || !isPrefix(p) {
		t.Fatal(s)
	}
	return p
}

// way is a way of table 0.
func way(t *testing.T, s string, iface int) api.Route {
	t.Helper()
	return api.Route{Prefix: px(t, s), Iface: iface, Gate: uint32(100 + iface), Metric: 5}
}

// in is a way in another table.
func in(table int, r api.Route) api.Route {
	r.Table = table
	return r
}

// numbers is some that are no interface, of however many there are.
func numbers() []int {
	return []int{-1, 8, 9, -8, 256, 1 << 32, -1 << 32, math.MinInt, math.MaxInt}
}

// wrong is ways of interface 1 that may not be.
func wrong() []api.Route {
	good := api.Route{Table: 2, Prefix: api.Prefix{Addr: 10 << 24, Len: 8}, Iface: 1, Gate: 7, Metric: 100}
	var l []api.Route
	for _, n := range []int{-1, 256, 1 << 32, -1 << 32, math.MinInt, math.MaxInt} {
		for _, change := range []func(r *api.Route){
			func(r *api.Route) { r.Table = n },
			func(r *api.Route) { r.Metric = n },
			func(r *api.Route) { r.Prefix.Len = n },
			func(r *api.Route) { r.Prefix = api.Prefix{Len: n} },
		} {
			r := good
			change(&r)
			l = append(l, r)
		}
	}
	for _, p := range []api.Prefix{{Addr: 10 << 24, Len: 6}, {Addr: 10 << 24, Len: 33}, {Addr: 1, Len: 0}, {Addr: 1, Len: 31}, {Addr: math.MaxUint32, Len: 31}} {
		r := good
		r.Prefix = p
		l = append(l, r)
	}
	return append(l, in(4, good))
}

// P12.1, New: no ways, so many interfaces, held within 0 and MaxIfaces, all up.
func TestNew(t *testing.T) {
	for _, n := range []int{math.MinInt, -1 << 32, -9, -1, 0, 1, 2, 7, 8, 9, 100, 1 << 32, math.MaxInt} {
		f, m := New(n), none(n)
		if want := min(max(n, 0), 8); len(m.up) != want {
			t.Fatal(n, m.up)
		}
		hold(t, f, m)
		if len(f.All()) != 0 {
			t.Error(n, f.All())
		}
	}
	if New(3) == New(3) {
		t.Error("New is one and the same")
	}
}

// The example of the chapter.
func TestExample(t *testing.T) {
	f := New(2)
	wide, narrow := way(t, "0.0.0.0/0", 0), way(t, "10.0.0.0/8", 1)
	if f.Add(wide) != api.OK || f.Add(narrow) != api.OK {
		t.Fatal("Add")
	}
	holdAddress(t, f, 0, px(t, "10.1.2.3").Addr, narrow, true)
	holdAddress(t, f, 0, px(t, "11.1.2.3").Addr, wide, true)
	holdAddress(t, f, 1, px(t, "10.1.2.3").Addr, api.Route{}, false)
}

// P12.1, Add: the way's interface is one of these, of however many there are;
// also where chapter 11 would let it be. W4: that is asked first.
func TestAddAsksTheInterface(t *testing.T) {
	for n := range 9 {
		for _, iface := range append(numbers(), 0, 1, 2, 3, 4, 5, 6, 7) {
			f, m := New(n), none(n)
			r := way(t, "10.0.0.0/8", 0)
			r.Iface = iface
			if iface >= 0 && iface < n {
				mustAdd(t, f, m, r)
				hold(t, f, m)
			} else {
				refuse(t, f, m, r, api.ErrArg)
			}
		}
	}
}

// P12.1, Add: an interface that is down is one of these all the same, as is one
// that was down.
func TestAddByAnInterfaceThatIsDown(t *testing.T) {
	f, m := New(2), none(2)
	mustSet(t, f, m, 1, false)
	mustAdd(t, f, m, way(t, "10.0.0.0/8", 1))
	hold(t, f, m)
	mustAdd(t, f, m, way(t, "10.0.0.0/9", 0))
	hold(t, f, m)
	mustSet(t, f, m, 1, true)
	mustAdd(t, f, m, way(t, "10.0.0.0/10", 1))
	hold(t, f, m)
	refuse(t, f, m, way(t, "10.0.0.0/8", 2), api.ErrArg)
}

// fullOfWays is one of MaxPrefixes ways and three interfaces.
func fullOfWays(t *testing.T) (*Fib, *plain) {
	t.Helper()
	f, m := New(3), none(3)
	for i := range api.MaxPrefixes {
		r := api.Route{Table: i % 4, Prefix: api.Prefix{Addr: uint32(i/4) << 24, Len: 8}, Iface: i % 3, Gate: uint32(2 * i), Metric: i}
		if f.Add(r) != api.OK {
			t.Fatal(i)
		}
		m.ways[nameOf(r)] = r.Metric
	}
	hold(t, f, m)
	return f, m
}

// fullOfBlocks is one of two interfaces, whose ways by the first one own just
// MaxBlocks blocks in this table.
func fullOfBlocks(t *testing.T, table int) (*Fib, *plain) {
	t.Helper()
	f, m := New(2), none(2)
	for i := range api.MaxBlocks {
		mustAdd(t, f, m, api.Route{Table: table, Prefix: api.Prefix{Addr: uint32(i) << 16, Len: 17}})
	}
	hold(t, f, m)
	return f, m
}

// P12.1, Add: what may not be is chapter 11's ErrArg, ahead of either ErrFull;
// what a wrong way says of an interface is asked ahead of all.
func TestAddOfWrongWays(t *testing.T) {
	empty, nothing := New(2), none(2)
	ways, manyWays := fullOfWays(t)
	tables, manyBlocks := fullOfBlocks(t, 2)
	for _, r := range wrong() {
		refuse(t, empty, nothing, r, api.ErrArg)
		if e := ways.Add(r); e != api.ErrArg {
			t.Errorf("Add(%v): %v", r, e)
		}
		refuse(t, tables, manyBlocks, r, api.ErrArg)
	}
	hold(t, ways, manyWays)
	for _, iface := range append(numbers(), 3) {
		for _, r := range append(wrong(), way(t, "250.0.0.0/17", 0)) {
			r.Iface = iface
			if e := ways.Add(r); e != api.ErrArg {
				t.Errorf("Add(%v): %v", r, e)
			}
			if e := tables.Add(r); e != api.ErrArg {
				t.Errorf("Add(%v): %v", r, e)
			}
		}
	}
	hold(t, ways, manyWays)
	hold(t, tables, manyBlocks)
}

// P12.1, Add: a way that is there gets the new Metric, and then may be the best
// or not.
func TestAddAgain(t *testing.T) {
	f, m := New(3), none(3)
	mustAdd(t, f, m, way(t, "10.0.0.0/8", 0), way(t, "10.0.0.0/8", 1), way(t, "10.0.0.0/8", 2), way(t, "10.0.0.0/25", 1))
	for _, iface := range []int{0, 1, 2} {
		for _, metric := range []int{255, 0, 4, 5, 6, 5} {
			r := way(t, "10.0.0.0/8", iface)
			r.Metric = metric
			mustAdd(t, f, m, r)
			if len(f.All()) != 4 {
				t.Fatal(f.All())
			}
			hold(t, f, m)
		}
		for _, metric := range []int{-1, 256, math.MinInt, math.MaxInt} {
			r := way(t, "10.0.0.0/8", iface)
			r.Metric = metric
			refuse(t, f, m, r, api.ErrArg)
		}
	}
}

// P12.1, Add: MaxPrefixes ways are all that may be, whether they are up or not;
// one that is there gets a new Metric still, and what was refused goes in
// behind Del.
func TestFullOfWays(t *testing.T) {
	f, m := fullOfWays(t)
	comes := way(t, "200.0.0.0/8", 1)
	refuse(t, f, m, comes, api.ErrFull)
	for iface := range 3 {
		mustSet(t, f, m, iface, false)
		refuse(t, f, m, comes, api.ErrFull)
	}
	mustSet(t, f, m, 1, true)
	for i, r := range m.all() {
		if i%50 == 0 {
			r.Metric = 255 - r.Metric
			mustAdd(t, f, m, r)
			refuse(t, f, m, comes, api.ErrFull)
		}
	}
	mustDel(t, f, m, m.all()[7])
	mustAdd(t, f, m, comes)
	refuse(t, f, m, way(t, "200.0.0.0/9", 1), api.ErrFull)
}

// fillings is ways of one table that own just MaxBlocks blocks: by an upper
// half each, by one upper half and its upper 24 bits, and by both in pairs.
func fillings() [][]api.Route {
	var halves, one, pairs []api.Route
	for i := range uint32(16) {
		halves = append(halves, api.Route{Prefix: api.Prefix{Addr: i << 16, Len: 17 + int(i)%8}})
	}
	for i := range uint32(15) {
		one = append(one, api.Route{Prefix: api.Prefix{Addr: i << 8, Len: 25 + int(i)%8}})
	}
	for i := range uint32(8) {
		pairs = append(pairs, api.Route{Prefix: api.Prefix{Addr: i<<16 | i<<8, Len: 25 + int(i)}})
	}
	return [][]api.Route{halves, one, pairs}
}

// beyond is ways that own blocks which none of the fillings does.
func beyond(t *testing.T) []api.Route {
	t.Helper()
	return []api.Route{way(t, "10.0.0.0/17", 1), way(t, "10.0.0.0/24", 1), way(t, "10.0.0.0/25", 1), way(t, "10.0.0.0/32", 1), way(t, "0.0.200.0/25", 1), way(t, "0.0.200.0/32", 1), way(t, "255.255.255.255/32", 1), way(t, "128.0.0.0/17", 0), way(t, "0.16.0.0/17", 0)}
}

// free is ways that own no block which the fillings do not, all of them.
func free(t *testing.T) []api.Route {
	t.Helper()
	return []api.Route{way(t, "0.0.0.0/0", 1), way(t, "10.0.0.0/8", 1), way(t, "10.0.0.0/16", 1), way(t, "255.255.0.0/16", 0), way(t, "0.0.0.0/17", 1), way(t, "0.0.128.0/17", 1), way(t, "0.0.200.0/24", 1)}
}

// P12.1, Add: at just MaxBlocks blocks a way is refused that would own one more;
// one that owns none, or what is owned already, goes in. Each table is for
// itself.
func TestFullOfBlocks(t *testing.T) {
	for _, filling := range fillings() {
		for table := range 4 {
			f, m := New(2), none(2)
			for _, r := range filling {
				mustAdd(t, f, m, in(table, r))
			}
			if f.Blocks(table) != 16 {
				t.Fatal(f.Blocks(table))
			}
			for _, r := range beyond(t) {
				refuse(t, f, m, in(table, r), api.ErrFull)
			}
			for _, r := range free(t) {
				mustAdd(t, f, m, in(table, r))
				hold(t, f, m)
			}
			for _, r := range filling {
				r.Metric, r.Iface = 9, 1
				mustAdd(t, f, m, in(table, r))
				r.Metric, r.Iface = 3, 0
				mustAdd(t, f, m, in(table, r))
			}
			hold(t, f, m)
			for _, r := range beyond(t) {
				refuse(t, f, m, in(table, r), api.ErrFull)
				mustAdd(t, f, m, in((table+1)%4, r))
			}
			hold(t, f, m)
		}
	}
}

// P12.1, Add: every table may be full at one time.
func TestAllTablesFull(t *testing.T) {
	f, m := New(2), none(2)
	for table := range 4 {
		for _, r := range fillings()[table%3] {
			mustAdd(t, f, m, in(table, r))
		}
	}
	for table := range 4 {
		refuse(t, f, m, in(table, way(t, "10.0.0.0/17", 1)), api.ErrFull)
		mustAdd(t, f, m, in(table, way(t, "10.0.0.0/16", 1)))
	}
	hold(t, f, m)
}

// P12.1, Add: a way that owns two blocks wants room for both.
func TestTwoBlocksAtOnce(t *testing.T) {
	for owned := 13; owned <= 16; owned++ {
		f, m := New(1), none(1)
		for i := range owned {
			mustAdd(t, f, m, api.Route{Prefix: api.Prefix{Addr: uint32(i) << 16, Len: 17}})
		}
		r := way(t, "10.1.2.0/25", 0)
		if owned+2 <= 16 {
			mustAdd(t, f, m, r)
			hold(t, f, m)
		} else {
			refuse(t, f, m, r, api.ErrFull)
		}
	}
}

// P12.1, Del: what was refused for want of blocks goes in behind it, where the
// way that went owned some alone.
func TestRoomBehindDel(t *testing.T) {
	f, m := fullOfBlocks(t, 1)
	comes, next := in(1, way(t, "10.0.0.0/17", 1)), in(1, way(t, "11.0.0.0/17", 1))
	twin := api.Route{Table: 1, Prefix: api.Prefix{Addr: 3 << 16, Len: 17}, Iface: 1, Metric: 9}
	other := api.Route{Table: 1, Prefix: api.Prefix{Addr: 3<<16 | 1<<15, Len: 18}}
	mustAdd(t, f, m, twin, other)
	refuse(t, f, m, comes, api.ErrFull)
	mustDel(t, f, m, api.Route{Table: 1, Prefix: twin.Prefix})
	refuse(t, f, m, comes, api.ErrFull)
	mustDel(t, f, m, other)
	refuse(t, f, m, comes, api.ErrFull)
	mustDel(t, f, m, twin)
	hold(t, f, m)
	mustAdd(t, f, m, comes)
	refuse(t, f, m, next, api.ErrFull)
	mustDel(t, f, m, comes)
	mustAdd(t, f, m, next)
	hold(t, f, m, comes.Prefix)
}

// P12.1, Del: a way that is alike but for one thing is not there; what is there
// stays. The Metric isn't asked.
func TestDel(t *testing.T) {
	f, m := New(4), none(4)
	r := api.Route{Table: 2, Prefix: px(t, "10.0.0.0/25"), Iface: 2, Gate: 7, Metric: 9}
	mustAdd(t, f, m, r, way(t, "10.0.0.0/8", 0))
	for _, change := range []func(r *api.Route){
		func(r *api.Route) { r.Table = 1 },
		func(r *api.Route) { r.Table = -1 },
		func(r *api.Route) { r.Table = 4 },
		func(r *api.Route) { r.Prefix.Len = 24 },
		func(r *api.Route) { r.Prefix.Len = 26 },
		func(r *api.Route) { r.Prefix.Len = 99 },
		func(r *api.Route) { r.Prefix.Addr++ },
		func(r *api.Route) { r.Prefix.Addr += 128 },
		func(r *api.Route) { r.Iface = 1 },
		func(r *api.Route) { r.Iface = 3 },
		func(r *api.Route) { r.Iface = 4 },
		func(r *api.Route) { r.Iface = -1 },
		func(r *api.Route) { r.Iface = math.MaxInt },
		func(r *api.Route) { r.Gate = 0 },
		func(r *api.Route) { r.Gate = math.MaxUint32 },
	} {
		o := r
		change(&o)
		if e := f.Del(o); e != api.ErrNone {
			t.Errorf("Del(%v): %v", o, e)
		}
		hold(t, f, m)
	}
	for _, metric := range []int{9, 0, 255, 77} {
		r.Metric = metric
		mustDel(t, f, m, r)
		hold(t, f, m, r.Prefix)
		if e := f.Del(r); e != api.ErrNone {
			t.Errorf("Del(%v) again: %v", r, e)
		}
		hold(t, f, m, r.Prefix)
		mustAdd(t, f, m, r)
		hold(t, f, m)
	}
	if e := New(0).Del(r); e != api.ErrNone {
		t.Errorf("Del of none: %v", e)
	}
}

// P12.1, Del: a way goes also while its interface is down, and doesn't come
// again with it.
func TestDelWhileDown(t *testing.T) {
	f, m := New(2), none(2)
	r := way(t, "10.0.0.0/25", 1)
	mustAdd(t, f, m, r, way(t, "10.0.0.0/8", 0))
	mustSet(t, f, m, 1, false)
	mustDel(t, f, m, r)
	hold(t, f, m, r.Prefix)
	mustSet(t, f, m, 1, true)
	hold(t, f, m, r.Prefix)
}

// P12.1, SetUp: ErrArg, if the interface is none of these; the ones that are may
// be set up and down.
func TestSetUpAsksTheInterface(t *testing.T) {
	for n := range 9 {
		for _, iface := range append(numbers(), 0, 1, 2, 3, 4, 5, 6, 7) {
			f, m := New(n), none(n)
			for _, up := range []bool{true, false, false, true} {
				if iface >= 0 && iface < n {
					mustSet(t, f, m, iface, up)
					hold(t, f, m)
				} else {
					refuseSet(t, f, m, iface, up, api.ErrArg)
				}
			}
		}
	}
}

// P12.1, SetUp: ErrArg is asked ahead of ErrFull.
func TestSetUpOfNoneWhereItIsFull(t *testing.T) {
	f, m := fullOfBlocks(t, 0)
	mustSet(t, f, m, 1, false)
	mustAdd(t, f, m, way(t, "10.0.0.0/17", 1))
	refuseSet(t, f, m, 1, true, api.ErrFull)
	for _, iface := range append(numbers(), 2) {
		refuseSet(t, f, m, iface, true, api.ErrArg)
	}
}

// P12.1, SetUp: what it is already changes nothing.
func TestSetUpToWhatItIs(t *testing.T) {
	f, m := fullOfBlocks(t, 3)
	mustAdd(t, f, m, way(t, "10.0.0.0/8", 1))
	mustSet(t, f, m, 0, true)
	mustSet(t, f, m, 1, true)
	hold(t, f, m)
	mustSet(t, f, m, 1, false)
	mustAdd(t, f, m, in(3, way(t, "10.0.0.0/25", 1)))
	mustSet(t, f, m, 0, true)
	mustSet(t, f, m, 1, false)
	hold(t, f, m)
	mustSet(t, f, m, 0, false)
	mustSet(t, f, m, 0, false)
	hold(t, f, m)
}

// P12.1: a way whose interface is down owns no block: it goes in where the table
// is full, and its interface doesn't come up until there is room.
func TestDownOwnsNone(t *testing.T) {
	for table := range 4 {
		f, m := fullOfBlocks(t, table)
		mustSet(t, f, m, 1, false)
		for i := range uint32(40) {
			mustAdd(t, f, m, api.Route{Table: table, Prefix: api.Prefix{Addr: 10<<24 | i<<16, Len: 25}, Iface: 1})
		}
		hold(t, f, m)
		refuseSet(t, f, m, 1, true, api.ErrFull)
		for i := range uint32(39) {
			mustDel(t, f, m, api.Route{Table: table, Prefix: api.Prefix{Addr: 10<<24 | i<<16, Len: 25}, Iface: 1})
		}
		refuseSet(t, f, m, 1, true, api.ErrFull)
		mustDel(t, f, m, api.Route{Table: table, Prefix: api.Prefix{Addr: 4 << 16, Len: 17}})
		refuseSet(t, f, m, 1, true, api.ErrFull)
		mustDel(t, f, m, api.Route{Table: table, Prefix: api.Prefix{Addr: 9 << 16, Len: 17}})
		mustSet(t, f, m, 1, true)
		if f.Blocks(table) != 16 {
			t.Fatal(f.Blocks(table))
		}
		hold(t, f, m)
	}
}

// P12.1, SetUp: one interface goes down, so that there is room for another; then
// it is the first one that is refused.
func TestInterfacesByTurns(t *testing.T) {
	f, m := fullOfBlocks(t, 0)
	mustSet(t, f, m, 1, false)
	for _, r := range fillings()[1] {
		r.Prefix.Addr |= 77 << 16
		r.Iface = 1
		mustAdd(t, f, m, r)
	}
	for range 3 {
		refuseSet(t, f, m, 1, true, api.ErrFull)
		mustSet(t, f, m, 0, false)
		hold(t, f, m)
		mustSet(t, f, m, 1, true)
		hold(t, f, m)
		refuseSet(t, f, m, 0, true, api.ErrFull)
		mustSet(t, f, m, 1, false)
		mustSet(t, f, m, 0, true)
		hold(t, f, m)
	}
}

// P12.1, SetUp: where one table would own too many blocks nothing is changed in
// any, ahead of it or behind it.
func TestSetUpTriesEveryTable(t *testing.T) {
	for table := range 4 {
		f, m := fullOfBlocks(t, table)
		mustSet(t, f, m, 1, false)
		for other := range 4 {
			mustAdd(t, f, m, in(other, way(t, "10.0.0.0/25", 1)), in(other, way(t, "10.0.0.0/8", 1)), in(other, way(t, "0.0.0.0/17", 1)))
		}
		hold(t, f, m)
		refuseSet(t, f, m, 1, true, api.ErrFull)
		refuseSet(t, f, m, 1, true, api.ErrFull)
		mustDel(t, f, m, in(table, way(t, "10.0.0.0/25", 1)))
		mustSet(t, f, m, 1, true)
		hold(t, f, m, px(t, "10.0.0.0/25"))
	}
}

// P12.1: behind what errs all goes on as if it had not been asked.
func TestGoesOnBehindErrors(t *testing.T) {
	f, m := fullOfBlocks(t, 2)
	mustSet(t, f, m, 1, false)
	mustAdd(t, f, m, in(2, way(t, "10.0.0.0/17", 1)), in(0, way(t, "10.0.0.0/17", 1)))
	for _, r := range m.all() {
		refuseSet(t, f, m, 1, true, api.ErrFull)
		refuse(t, f, m, in(2, way(t, "99.0.0.0/17", 0)), api.ErrFull)
		refuse(t, f, m, in(2, way(t, "99.0.0.0/17", 2)), api.ErrArg)
		if e := f.Del(in(2, way(t, "99.0.0.0/17", 0))); e != api.ErrNone {
			t.Fatal(e)
		}
		hold(t, f, m)
		mustDel(t, f, m, r)
		mustAdd(t, f, m, r)
		hold(t, f, m)
	}
}

// P12.1, W6, W7: what Up answered is the caller's own, and stays what it is.
func TestUpStays(t *testing.T) {
	f, m := New(3), none(3)
	mustSet(t, f, m, 1, false)
	was := f.Up()
	mustSet(t, f, m, 0, false)
	mustSet(t, f, m, 1, true)
	mustAdd(t, f, m, way(t, "10.0.0.0/8", 2))
	if !slices.Equal(was, []bool{true, false, true}) {
		t.Error(was)
	}
	mine, other := f.Up(), f.Up()
	for i := range mine[:cap(mine)] {
		mine[:cap(mine)][i] = i%2 == 0
	}
	hold(t, f, m)
	if !slices.Equal(other, m.up) {
		t.Error(other)
	}
	_ = append(other, true, true)
	hold(t, f, m)
}

// P12.2, W6, W7: what All answered is the caller's own, and stays what it is.
func TestAllStays(t *testing.T) {
	f, m := New(2), none(2)
	mustAdd(t, f, m, way(t, "10.0.0.0/8", 0), way(t, "10.0.0.0/8", 1), way(t, "10.0.0.0/25", 1))
	was, want := f.All(), m.all()
	mine, other := f.All(), f.All()
	for i := range mine[:cap(mine)] {
		mine[:cap(mine)][i] = api.Route{Table: 9, Iface: 9}
	}
	hold(t, f, m)
	_ = append(other, api.Route{})
	mustDel(t, f, m, way(t, "10.0.0.0/8", 0))
	mustAdd(t, f, m, way(t, "0.0.0.0/8", 0))
	if !slices.Equal(was, want) || !slices.Equal(other, want) {
		t.Error(was, other)
	}
	hold(t, f, m)
}

// P12.2, Look: of prefixes of every Len that cover one another the longest one
// that is up is told, at both ends of each and beside them, with every set of
// interfaces that are up.
func TestLookAtEnds(t *testing.T) {
	for _, a := range []uint32{0, math.MaxUint32, 0x0a01807f, 0xaaaaaaaa} {
		f, m := New(3), none(3)
		for n := range 33 {
			mustAdd(t, f, m, api.Route{Table: 1, Prefix: first(a, n), Iface: n % 3, Metric: 255 - n})
		}
		for set := range 8 {
			for iface := range 3 {
				mustSet(t, f, m, iface, set>>iface&1 == 1)
			}
			hold(t, f, m)
		}
	}
}

// P12.2, Look: a prefix of each Len alone has its addresses, and no other.
func TestLookOfOnePrefix(t *testing.T) {
	for n := range 33 {
		for _, a := range []uint32{0, math.MaxUint32, 0x0a01807f} {
			f, m := New(1), none(1)
			r := api.Route{Prefix: first(a, n)}
			mustAdd(t, f, m, r)
			hold(t, f, m)
			holdAddress(t, f, 0, r.Prefix.Addr, r, true)
			holdAddress(t, f, 0, last(r.Prefix), r, true)
			if n > 0 {
				holdAddress(t, f, 0, r.Prefix.Addr-1, api.Route{}, false)
				holdAddress(t, f, 0, last(r.Prefix)+1, api.Route{}, false)
			}
		}
	}
}

// P12.2, Look: where the best way goes, or goes down, the next best is told, and
// where all of a prefix's have gone the next prefix; they come again as they
// went.
func TestNextBest(t *testing.T) {
	f, m := New(4), none(4)
	l := []api.Route{
		{Prefix: px(t, "10.0.0.0/25"), Iface: 3, Gate: 9, Metric: 1},
		{Prefix: px(t, "10.0.0.0/25"), Iface: 1, Gate: 9, Metric: 2},
		{Prefix: px(t, "10.0.0.0/25"), Iface: 2, Gate: 3, Metric: 2},
		{Prefix: px(t, "10.0.0.0/25"), Iface: 2, Gate: 4, Metric: 2},
		{Prefix: px(t, "10.0.0.0/16"), Iface: 1, Gate: 0, Metric: 0},
		{Prefix: px(t, "10.0.0.0/8"), Iface: 0, Gate: 1 << 31, Metric: 255},
		{Prefix: px(t, "0.0.0.0/0"), Iface: 0, Gate: 1, Metric: 0},
	}
	mustAdd(t, f, m, l...)
	a := px(t, "10.0.0.127").Addr
	for i, r := range l {
		holdAddress(t, f, 0, a, r, true)
		mustDel(t, f, m, r)
		hold(t, f, m, l[0].Prefix)
		if i == len(l)-1 {
			holdAddress(t, f, 0, a, api.Route{}, false)
		}
	}
	for i := range l {
		r := l[len(l)-1-i]
		mustAdd(t, f, m, r)
		holdAddress(t, f, 0, a, r, true)
		hold(t, f, m, l[0].Prefix)
	}
	for _, x := range []struct{ iface, next int }{{3, 1}, {1, 2}, {2, 5}} {
		mustSet(t, f, m, x.iface, false)
		holdAddress(t, f, 0, a, l[x.next], true)
		hold(t, f, m)
	}
	mustSet(t, f, m, 0, false)
	holdAddress(t, f, 0, a, api.Route{}, false)
	mustSet(t, f, m, 3, true)
	holdAddress(t, f, 0, a, l[0], true)
	hold(t, f, m)
}

// P12.2: each table has its own ways, of the same prefixes too.
func TestTablesApart(t *testing.T) {
	f, m := New(4), none(4)
	p := px(t, "10.0.0.0/25")
	for table := range 4 {
		r := api.Route{Table: table, Prefix: p, Iface: 3 - table, Gate: uint32(table), Metric: table}
		mustAdd(t, f, m, r)
		hold(t, f, m)
		holdAddress(t, f, table, p.Addr, r, true)
	}
	for table := range 4 {
		mustSet(t, f, m, 3-table, false)
		hold(t, f, m)
		holdAddress(t, f, table, p.Addr, api.Route{}, false)
	}
}

// P12.2, Look: what is told is the way as it was laid, at the ends of all that
// it has.
func TestWholeWayIsTold(t *testing.T) {
	f, m := New(8), none(8)
	for _, r := range []api.Route{
		{Table: 3, Prefix: px(t, "255.255.255.255/32"), Iface: 7, Gate: math.MaxUint32, Metric: 255},
		{Table: 0, Prefix: px(t, "0.0.0.0/0")},
		{Table: 1, Prefix: px(t, "0.0.0.0/32"), Iface: 7, Gate: 1 << 31},
		{Table: 2, Prefix: px(t, "128.0.0.0/1"), Metric: 255},
	} {
		mustAdd(t, f, m, r)
		holdAddress(t, f, r.Table, r.Prefix.Addr, r, true)
	}
	hold(t, f, m)
}

// P12.2, Blocks: alike ways of a prefix own its blocks once, as long as one of
// them is up.
func TestBlocks(t *testing.T) {
	f, m := New(2), none(2)
	for i, x := range []struct {
		p    string
		want int
	}{{"0.0.0.0/0", 0}, {"10.0.0.0/16", 0}, {"10.0.0.0/17", 1}, {"10.0.0.0/24", 1}, {"10.0.0.0/25", 2}, {"10.0.0.128/25", 2}, {"10.0.0.7/32", 2}, {"10.0.1.0/24", 2}, {"10.0.1.0/25", 3}, {"11.0.0.0/32", 5}} {
		mustAdd(t, f, m, way(t, x.p, 0), way(t, x.p, 1))
		if got := f.Blocks(0); got != x.want {
			t.Errorf("%d: %s: %d", i, x.p, got)
		}
		hold(t, f, m)
	}
	for _, x := range []struct {
		iface int
		up    bool
		want  int
	}{{0, false, 5}, {1, false, 0}, {0, true, 5}, {0, false, 0}, {1, true, 5}} {
		mustSet(t, f, m, x.iface, x.up)
		if got := f.Blocks(0); got != x.want {
			t.Errorf("%v: %d", x, got)
		}
		hold(t, f, m)
	}
}

// some is a prefix near others, so that many cover each other and want the same
// blocks: of those that own some there are more than may be.
func some(r *rand.Rand) api.Prefix {
	a := uint32(r.Intn(2))<<31 | uint32(r.Intn(6))<<16 | uint32(r.Intn(4))<<8 | uint32(r.Intn(3))
	if r.Intn(9) == 0 {
		a = r.Uint32()
	}
	n := r.Intn(33)
	if r.Intn(2) == 0 {
		n = 15 + r.Intn(18)
	}
	return first(a, n)
}

// random is a way, now and then one that may not be or is there already.
func random(r *rand.Rand, m *plain) api.Route {
	if row := m.all(); len(row) > 0 && r.Intn(3) == 0 {
		return row[r.Intn(len(row))]
	}
	if r.Intn(12) == 0 {
		l := wrong()
		return l[r.Intn(len(l))]
	}
	return api.Route{Table: r.Intn(3), Prefix: some(r), Iface: r.Intn(len(m.up) + 1), Gate: uint32(r.Intn(2)), Metric: r.Intn(3)}
}

// step does one thing in both, holds what is answered, and tells what it was and
// which prefix it was about.
func step(t *testing.T, r *rand.Rand, f *Fib, m *plain) (api.Errno, api.Prefix) {
	t.Helper()
	x := random(r, m)
	switch r.Intn(10) {
	case 0, 1:
		e := m.del(x)
		if got := f.Del(x); got != e {
			t.Fatalf("Del(%v): %v, want %v", x, got, e)
		}
		return e, x.Prefix
	case 2, 3:
		up := r.Intn(3) > 0
		e := m.setUp(x.Iface, up)
		if got := f.SetUp(x.Iface, up); got != e {
			t.Fatalf("SetUp(%d, %v): %v, want %v", x.Iface, up, got, e)
		}
		return e, x.Prefix
	}
	x.Metric += r.Intn(3)
	e := m.add(x)
	if got := f.Add(x); got != e {
		t.Fatalf("Add(%v): %v, want %v", x, got, e)
	}
	return e, x.Prefix
}

// P12.1 to P12.3, P0.2: long rows of calls, held behind each against the plain
// words, at addresses near by and anywhere.
func TestRows(t *testing.T) {
	times := map[api.Errno]int{}
	for seed, ifaces := range []int{1, 2, 3, 4, 5, 8} {
		r := rand.New(rand.NewSource(int64(seed)))
		f, m := New(ifaces), none(ifaces)
		for i := range 400 {
			e, p := step(t, r, f, m)
			times[e]++
			if i%20 == 0 {
				hold(t, f, m)
			}
			for table := range 4 {
				up := m.upWays(table)
				if got, want := f.Blocks(table), owned(up); got != want {
					t.Fatalf("%d: Blocks(%d): %d, want %d", i, table, got, want)
				}
				for _, a := range []uint32{p.Addr, some(r).Addr, last(some(r)), r.Uint32()} {
					want, is := look(up, a)
					holdAddress(t, f, table, a, want, is)
				}
			}
		}
		hold(t, f, m)
	}
	for _, e := range []api.Errno{api.OK, api.ErrArg, api.ErrFull, api.ErrNone} {
		if times[e] < 20 {
			t.Errorf("%v: %d times", e, times[e])
		}
	}
}

// P12.3, W2: what is told hangs on the ways that are there and on which
// interfaces are up alone, however they came to be so.
func TestDetours(t *testing.T) {
	r := rand.New(rand.NewSource(7))
	for range 10 {
		f, m := New(3), none(3)
		for range 150 {
			step(t, r, f, m)
		}
		g, n := New(3), none(3)
		for iface, up := range m.up {
			mustSet(t, g, n, iface, up)
		}
		row := m.all()
		for _, i := range r.Perm(len(row)) {
			mustAdd(t, g, n, row[i])
		}
		hold(t, f, m)
		hold(t, g, m)
		for range 300 {
			table, a := r.Intn(4), some(r).Addr
			want, is := f.Look(table, a)
			holdAddress(t, g, table, a, want, is)
		}
	}
}

// W2: what is asked changes nothing that is told, and no Fib knows of another.
func TestAskingChangesNothing(t *testing.T) {
	r := rand.New(rand.NewSource(8))
	f, m := New(4), none(4)
	for range 100 {
		step(t, r, f, m)
	}
	g, n := New(4), none(4)
	for range 300 {
		table, a := r.Intn(6)-1, r.Uint32()
		f.Look(table, a)
		f.ByTrie(table, a)
		f.ByDir(table, a)
		f.Blocks(table)
		f.All()
		f.Up()
		step(t, r, g, n)
	}
	hold(t, f, m)
	hold(t, g, n)
}

// P12.3, W8: of a nil Fib Add, Del and SetUp answer ErrArg, all else nothing.
func TestNil(t *testing.T) {
	var f *Fib
	for _, r := range append(wrong(), way(t, "10.0.0.0/8", 0), api.Route{}) {
		if e := f.Add(r); e != api.ErrArg {
			t.Errorf("Add(%v): %v", r, e)
		}
		if e := f.Del(r); e != api.ErrArg {
			t.Errorf("Del(%v): %v", r, e)
		}
	}
	for _, iface := range append(numbers(), 0, 1, 7) {
		for _, up := range []bool{false, true} {
			if e := f.SetUp(iface, up); e != api.ErrArg {
				t.Errorf("SetUp(%d, %v): %v", iface, up, e)
			}
		}
	}
	for _, table := range tables() {
		holdAddress(t, f, table, 0, api.Route{}, false)
		holdAddress(t, f, table, math.MaxUint32, api.Route{}, false)
		if n := f.Blocks(table); n != 0 {
			t.Errorf("Blocks(%d): %d", table, n)
		}
	}
	if len(f.Up()) != 0 || len(f.All()) != 0 {
		t.Error(f.Up(), f.All())
	}
}

// W1: one that is not from New has no interface, and is used without a panic.
func TestZero(t *testing.T) {
	f := new(Fib)
	if e := f.Add(way(t, "10.0.0.0/8", 0)); e != api.ErrArg {
		t.Error(e)
	}
	if e := f.SetUp(0, true); e != api.ErrArg {
		t.Error(e)
	}
	if e := f.Del(way(t, "10.0.0.0/8", 0)); e == api.OK {
		t.Error(e)
	}
	hold(t, f, none(0))
}
