package trie

import (
	"math"
	"math/rand"
	"slices"
	"testing"

	"castellan/addr"
	"castellan/api"
)

// plain is what is there, as the chapter's words have it: every promise is told
// anew from this alone, by going through all of it.
type plain map[api.Prefix]int

// first is an address's first n bits.
func first(a uint32, n int) uint64 { return uint64(a) >> (32 - n) }

// isPrefix is chapter 3's Is, in other words: no bit behind the first Len.
func isPrefix(p api.Prefix) bool {
	return p.Len >= 0 && p.Len <= 32 && first(p.Addr, p.Len)<<(32-p.Len) == uint64(p.Addr)
}

// covers is chapter 3's Covers, of prefixes that may be.
func covers(p, q api.Prefix) bool {
	return p.Len <= q.Len && first(p.Addr, p.Len) == first(q.Addr, p.Len)
}

// walk is P9.1's Walk.
func (m plain) walk() []api.Prefix {
	var row []api.Prefix
	for p := range m {
		row = append(row, p)
	}
	slices.SortFunc(row, func(p, q api.Prefix) int {
		if p.Addr != q.Addr {
			if p.Addr < q.Addr {
				return -1
			}
			return 1
		}
		return p.Len - q.Len
	})
	return row
}

// covers is P9.1's Covers.
func (m plain) covers(p api.Prefix) []api.Prefix {
	if !isPrefix(p) {
		return nil
	}
	var row []api.Prefix
	for q := range m {
		if covers(q, p) {
			row = append(row, q)
		}
	}
	slices.SortFunc(row, func(p, q api.Prefix) int { return p.Len - q.Len })
	return row
}

// longest is P9.1's Longest.
func (m plain) longest(a uint32) (api.Prefix, int, bool) {
	for n := 32; n >= 0; n-- {
		p := api.Prefix{Addr: uint32(first(a, n) << (32 - n)), Len: n}
		if v, ok := m[p]; ok {
			return p, v, true
		}
	}
	return api.Prefix{}, 0, false
}

// nodes is P9.2's Nodes: of what is there, and of everything above it that is
// not, both halves asked.
func (m plain) nodes() int {
	above := map[api.Prefix]int{} // everything that is there, or covers one that is
	for p := range m {
		for n := range p.Len + 1 {
			above[api.Prefix{Addr: uint32(first(p.Addr, n) << (32 - n)), Len: n}] = 1
		}
	}
	all := len(m)
	for p := range above {
		if _, ok := m[p]; ok || p.Len == 32 {
			continue
		}
		low := api.Prefix{Addr: p.Addr, Len: p.Len + 1}
		high := api.Prefix{Addr: p.Addr + 1<<(31-p.Len), Len: p.Len + 1}
		if above[low] == 1 && above[high] == 1 {
			all++
		}
	}
	return all
}

// hold holds what x tells of all that is there against m.
func hold(t *testing.T, x *Trie, m plain) {
	t.Helper()
	if got := x.Len(); got != len(m) {
		t.Fatalf("Len: %d of %v", got, m)
	}
	if got, want := x.Walk(), m.walk(); !slices.Equal(got, want) {
		t.Fatalf("Walk: %v, want %v", got, want)
	}
	if got, want := x.Nodes(), m.nodes(); got != want {
		t.Fatalf("Nodes: %d, want %d, of %v", got, want, m.walk())
	}
}

// holdPrefix holds what x tells of a prefix, of its ends and of what is one
// beyond them against m.
func holdPrefix(t *testing.T, x *Trie, m plain, p api.Prefix) {
	t.Helper()
	v, ok := x.Get(p)
	if want, is := m[p]; ok != is || v != want {
		t.Fatalf("Get(%v): %d, %v, of %v", p, v, ok, m)
	}
	if got, want := x.Covers(p), m.covers(p); !slices.Equal(got, want) {
		t.Fatalf("Covers(%v): %v, want %v", p, got, want)
	}
	last := p.Addr
	if isPrefix(p) {
		last = uint32(uint64(p.Addr) + 1<<(32-p.Len) - 1)
	}
	for _, a := range []uint32{p.Addr, last, p.Addr - 1, last + 1} {
		holdAddress(t, x, m, a)
	}
}

// holdAddress holds what x tells of an address against m.
func holdAddress(t *testing.T, x *Trie, m plain, a uint32) {
	t.Helper()
	p, v, ok := x.Longest(a)
	if q, w, is := m.longest(a); p != q || v != w || ok != is {
		t.Fatalf("Longest(%#x): %v, %d, %v, want %v, %d, %v", a, p, v, ok, q, w, is)
	}
}

// set lays p in both.
func set(t *testing.T, x *Trie, m plain, p api.Prefix, v int) {
	t.Helper()
	if e := x.Set(p, v); e != api.OK {
		t.Fatalf("Set(%v): %v", p, e)
	}
	m[p] = v
}

// del takes p from both.
func del(t *testing.T, x *Trie, m plain, p api.Prefix) {
	t.Helper()
	_, was := m[p]
	delete(m, p)
	if got := x.Del(p); got != was {
		t.Fatalf("Del(%v): %v", p, got)
	}
}

// px is a text as a prefix.
func px(t *testing.T, s string) api.Prefix {
	t.Helper()
	p, e := addr.ParsePrefix(s)
	if e != api.OK {
		t.Fatal(s)
	}
	return p
}

// row is texts as prefixes.
func row(t *testing.T, l ...string) []api.Prefix {
	t.Helper()
	var ps []api.Prefix
	for _, s := range l {
		ps = append(ps, px(t, s))
	}
	return ps
}

// laid is a Trie of texts, numbered from 1, and the same plainly.
func laid(t *testing.T, l ...string) (*Trie, plain) {
	t.Helper()
	x, m := New(), plain{}
	for i, p := range row(t, l...) {
		set(t, x, m, p, i+1)
	}
	return x, m
}

// small are base's first at bits as a prefix, and all that are one, two or three
// bits longer: fifteen of them.
func small(base uint32, at int) []api.Prefix {
	var l []api.Prefix
	for n := range 4 {
		for i := range 1 << n {
			l = append(l, api.Prefix{Addr: base | uint32(uint64(i)<<(32-at-n)), Len: at + n})
		}
	}
	return l
}

// smalls are such prefixes at the top, the middle and the bottom, at both ends of
// the addresses.
func smalls() [][]api.Prefix {
	return [][]api.Prefix{
		small(0, 0), small(0x0a000000, 14), small(0x0a010200, 29), small(0, 29), small(0xfffffff8, 29), small(0xfffc0000, 14),
	}
}

// wrong are prefixes that may not be: Lens out of bounds, and bits behind Len.
func wrong() []api.Prefix {
	l := []api.Prefix{
		{Addr: 1, Len: 0}, {Addr: 1 << 31, Len: 0}, {Addr: 1 << 30, Len: 1}, {Addr: 0x0a000001, Len: 8}, {Addr: 0x0a800000, Len: 8},
		{Addr: 0x0a010203, Len: 31}, {Addr: math.MaxUint32, Len: 31}, {Addr: math.MaxUint32, Len: 0},
	}
	for _, n := range []int{math.MinInt, math.MinInt32, -256, -33, -32, -1, 33, 34, 63, 64, 65, 256, 288, 1 << 32, 1<<32 + 8, math.MaxInt32, math.MaxInt} {
		for _, a := range []uint32{0, 0x0a000000, 0x0a010203, 1 << 31, math.MaxUint32} {
			l = append(l, api.Prefix{Addr: a, Len: n})
		}
	}
	return l
}

// P9.1: Set: p has the number v, also where it had another, whatever the number.
func TestSet(t *testing.T) {
	x, m := New(), plain{}
	texts := []string{
		"10.0.0.0/8", "10.1.0.0/16", "0.0.0.0/0", "10.1.2.3/32", "11.0.0.0/8", "10.0.0.0/16", "255.255.255.255/32", "0.0.0.0/32",
		"128.0.0.0/1", "0.0.0.0/1", "255.255.255.254/31", "255.255.255.254/32", "0.0.0.1/32", "0.0.0.0/31", "127.255.255.255/32", "128.0.0.0/32",
	}
	for i, p := range row(t, texts...) {
		set(t, x, m, p, 100+i)
		hold(t, x, m)
	}
	for _, v := range []int{0, 1, -1, -7, math.MaxInt, math.MinInt, math.MaxInt32 + 1} {
		for _, p := range row(t, texts...) {
			set(t, x, m, p, v)
			if got, ok := x.Get(p); got != v || !ok {
				t.Errorf("%v: %d, %v, want %d", p, got, ok, v)
			}
		}
		hold(t, x, m)
	}
}

// P9.1: Set at every Len from 0 to 32, at the first address and at the last,
// from the shortest on, from the longest on, and from the middle.
func TestSetAtEveryLen(t *testing.T) {
	for _, a := range []uint32{0, math.MaxUint32, 0xaaaaaaaa, 0x0a010203, 1 << 31, 1<<31 - 1} {
		for _, at := range []func(i int) int{
			func(i int) int { return i },
			func(i int) int { return 32 - i },
			func(i int) int { return (16 + i*10) % 33 },
		} {
			x, m := New(), plain{}
			for i := range 33 {
				n := at(i)
				p := api.Prefix{Addr: uint32(first(a, n) << (32 - n)), Len: n}
				set(t, x, m, p, 1000+n)
				hold(t, x, m)
				for q := range m {
					holdPrefix(t, x, m, q)
				}
			}
			if x.Nodes() != 33 || x.Len() != 33 {
				t.Errorf("%#x: %d, %d", a, x.Nodes(), x.Len())
			}
		}
	}
}

// P9.1, W3: Set of what may not be: ErrArg, and nothing has changed; of such
// there is nothing else either.
func TestWrongPrefixes(t *testing.T) {
	full := []string{"0.0.0.0/0", "10.0.0.0/8", "10.1.2.3/32", "10.1.2.2/31", "255.255.255.255/32", "0.0.0.0/32", "128.0.0.0/1", "128.0.0.0/32"}
	for _, texts := range [][]string{nil, full} {
		x, m := laid(t, texts...)
		for _, p := range wrong() {
			if e := x.Set(p, 99); e != api.ErrArg {
				t.Fatalf("Set(%v): %v", p, e)
			}
			if x.Del(p) {
				t.Fatalf("Del(%v)", p)
			}
			hold(t, x, m)
			holdPrefix(t, x, m, p)
			if l := x.Covers(p); len(l) != 0 {
				t.Fatalf("Covers(%v): %v", p, l)
			}
			for q := range m {
				holdPrefix(t, x, m, q)
			}
		}
	}
}

// P9.1: Del tells whether it was there; what else is there stays.
func TestDel(t *testing.T) {
	texts := []string{"10.0.0.0/8", "10.1.0.0/16", "0.0.0.0/0", "10.1.2.3/32", "11.0.0.0/8", "10.0.0.0/16", "255.255.255.255/32"}
	for _, s := range texts {
		x, m := laid(t, texts...)
		// Forks, what is covered by one or covers one, and what is neither.
		for _, p := range row(t, "10.0.0.0/15", "10.0.0.0/7", "10.1.2.0/24", "10.0.0.0/9", "255.255.255.254/31", "0.0.0.0/1", "128.0.0.0/1", "11.0.0.0/32", "10.1.2.2/32", "0.0.0.0/32") {
			if x.Del(p) {
				t.Errorf("%v was not there", p)
			}
			hold(t, x, m)
		}
		for again := range 3 {
			if got := x.Del(px(t, s)); got != (again == 0) {
				t.Errorf("%s, %d: %v", s, again, got)
			}
			delete(m, px(t, s))
			hold(t, x, m)
			for _, q := range row(t, texts...) {
				holdPrefix(t, x, m, q)
			}
		}
		set(t, x, m, px(t, s), 77)
		hold(t, x, m)
		holdPrefix(t, x, m, px(t, s))
	}
}

// P9.1: Del of all, in rows of any order: there is nothing behind it.
func TestDelOfAll(t *testing.T) {
	r := rand.New(rand.NewSource(1))
	for range 300 {
		for _, l := range smalls() {
			x, m := New(), plain{}
			for _, i := range r.Perm(len(l)) {
				set(t, x, m, l[i], i)
			}
			for _, i := range r.Perm(len(l)) {
				del(t, x, m, l[i])
				hold(t, x, m)
			}
			if x.Len() != 0 || x.Nodes() != 0 || len(x.Walk()) != 0 || x.root != nil {
				t.Fatal("something is left")
			}
		}
	}
}

// P9.1: Get of what only covers another one, or is covered, is nothing; a
// number that is 0 is one.
func TestGet(t *testing.T) {
	x, _ := laid(t, "10.0.0.0/8", "10.1.0.0/16", "10.2.0.0/16")
	for _, s := range []string{
		"0.0.0.0/0", "10.0.0.0/7", "10.0.0.0/9", "10.0.0.0/14", "10.0.0.0/15", "10.0.0.0/16", "10.1.0.0/17", "10.1.128.0/17", "10.1.0.0/32", "10.0.0.0/32", "11.0.0.0/8", "138.0.0.0/8",
	} {
		if v, ok := x.Get(px(t, s)); v != 0 || ok {
			t.Errorf("%s: %d, %v", s, v, ok)
		}
	}
	for i, s := range []string{"10.0.0.0/8", "10.1.0.0/16", "10.2.0.0/16"} {
		if v, ok := x.Get(px(t, s)); v != i+1 || !ok {
			t.Errorf("%s: %d, %v", s, v, ok)
		}
	}
	x.Set(px(t, "10.0.0.0/8"), 0)
	if v, ok := x.Get(px(t, "10.0.0.0/8")); v != 0 || !ok {
		t.Errorf("%d, %v", v, ok)
	}
}

// P9.1: Longest, with 0.0.0.0/0 and without, at the ends of prefixes and one
// beyond.
func TestLongest(t *testing.T) {
	texts := []string{"10.0.0.0/8", "10.1.0.0/16", "10.1.2.0/24", "10.1.2.3/32", "12.0.0.0/7", "255.255.255.255/32", "0.0.0.0/32", "192.0.0.0/2"}
	for _, x := range []struct{ a, want string }{
		{"0.0.0.0", "0.0.0.0/32"}, {"0.0.0.1", ""}, {"9.255.255.255", ""}, {"10.0.0.0", "10.0.0.0/8"}, {"10.0.255.255", "10.0.0.0/8"},
		{"10.1.0.0", "10.1.0.0/16"}, {"10.1.1.255", "10.1.0.0/16"}, {"10.1.2.0", "10.1.2.0/24"}, {"10.1.2.2", "10.1.2.0/24"},
		{"10.1.2.3", "10.1.2.3/32"}, {"10.1.2.4", "10.1.2.0/24"}, {"10.1.2.255", "10.1.2.0/24"}, {"10.1.3.0", "10.1.0.0/16"},
		{"10.1.255.255", "10.1.0.0/16"}, {"10.2.0.0", "10.0.0.0/8"}, {"10.255.255.255", "10.0.0.0/8"}, {"11.0.0.0", ""},
		{"11.255.255.255", ""}, {"12.0.0.0", "12.0.0.0/7"}, {"13.255.255.255", "12.0.0.0/7"}, {"14.0.0.0", ""}, {"127.255.255.255", ""},
		{"128.0.0.0", ""}, {"191.255.255.255", ""}, {"192.0.0.0", "192.0.0.0/2"}, {"255.255.255.254", "192.0.0.0/2"}, {"255.255.255.255", "255.255.255.255/32"},
	} {
		without, m := laid(t, texts...)
		with, n := laid(t, append([]string{"0.0.0.0/0"}, texts...)...)
		a := px(t, x.a).Addr
		holdAddress(t, without, m, a)
		holdAddress(t, with, n, a)
		p, v, ok := without.Longest(a)
		q, w, is := with.Longest(a)
		if x.want == "" {
			if p != (api.Prefix{}) || v != 0 || ok || q != (api.Prefix{}) || w != 1 || !is {
				t.Errorf("%s: %v, %d, %v; %v, %d, %v", x.a, p, v, ok, q, w, is)
			}
			continue
		}
		if p != px(t, x.want) || !ok || q != p || !is || w != v+1 {
			t.Errorf("%s: %v, %d, %v; %v, %d, %v", x.a, p, v, ok, q, w, is)
		}
	}
}

// P9.1: Covers, where p is there and where it is not.
func TestCovers(t *testing.T) {
	x, m := laid(t, "10.1.2.3/32", "10.0.0.0/8", "0.0.0.0/0", "10.1.0.0/16", "11.0.0.0/8", "10.1.2.0/30", "10.128.0.0/9")
	for _, c := range []struct {
		p    string
		want []string
	}{
		{"10.1.2.3/32", []string{"0.0.0.0/0", "10.0.0.0/8", "10.1.0.0/16", "10.1.2.0/30", "10.1.2.3/32"}},
		{"10.1.2.2/32", []string{"0.0.0.0/0", "10.0.0.0/8", "10.1.0.0/16", "10.1.2.0/30"}},
		{"10.1.2.2/31", []string{"0.0.0.0/0", "10.0.0.0/8", "10.1.0.0/16", "10.1.2.0/30"}},
		{"10.1.2.0/30", []string{"0.0.0.0/0", "10.0.0.0/8", "10.1.0.0/16", "10.1.2.0/30"}},
		{"10.1.2.0/29", []string{"0.0.0.0/0", "10.0.0.0/8", "10.1.0.0/16"}},
		{"10.1.0.0/16", []string{"0.0.0.0/0", "10.0.0.0/8", "10.1.0.0/16"}},
		{"10.0.0.0/15", []string{"0.0.0.0/0", "10.0.0.0/8"}},
		{"10.0.0.0/8", []string{"0.0.0.0/0", "10.0.0.0/8"}},
		{"10.0.0.0/7", []string{"0.0.0.0/0"}},
		{"12.0.0.0/8", []string{"0.0.0.0/0"}},
		{"0.0.0.0/0", []string{"0.0.0.0/0"}},
		{"0.0.0.0/32", []string{"0.0.0.0/0"}},
		{"255.255.255.255/32", []string{"0.0.0.0/0"}},
	} {
		if got := x.Covers(px(t, c.p)); !slices.Equal(got, row(t, c.want...)) {
			t.Errorf("%s: %v", c.p, got)
		}
	}
	del(t, x, m, px(t, "0.0.0.0/0"))
	for _, s := range []string{"0.0.0.0/0", "10.0.0.0/7", "12.0.0.0/8", "0.0.0.0/32"} {
		if got := x.Covers(px(t, s)); len(got) != 0 {
			t.Errorf("%s: %v", s, got)
		}
	}
}

// P9.1: Walk and Len, behind each Set and Del.
func TestWalkAndLen(t *testing.T) {
	x := New()
	for _, c := range []struct {
		put  bool
		p    string
		want []string
	}{
		{true, "10.1.0.0/16", []string{"10.1.0.0/16"}},
		{true, "10.0.0.0/16", []string{"10.0.0.0/16", "10.1.0.0/16"}},
		{true, "10.0.0.0/8", []string{"10.0.0.0/8", "10.0.0.0/16", "10.1.0.0/16"}},
		{true, "10.0.0.0/32", []string{"10.0.0.0/8", "10.0.0.0/16", "10.0.0.0/32", "10.1.0.0/16"}},
		{true, "10.0.0.0/8", []string{"10.0.0.0/8", "10.0.0.0/16", "10.0.0.0/32", "10.1.0.0/16"}},
		{true, "255.0.0.0/8", []string{"10.0.0.0/8", "10.0.0.0/16", "10.0.0.0/32", "10.1.0.0/16", "255.0.0.0/8"}},
		{true, "0.0.0.0/32", []string{"0.0.0.0/32", "10.0.0.0/8", "10.0.0.0/16", "10.0.0.0/32", "10.1.0.0/16", "255.0.0.0/8"}},
		{true, "0.0.0.0/0", []string{"0.0.0.0/0", "0.0.0.0/32", "10.0.0.0/8", "10.0.0.0/16", "10.0.0.0/32", "10.1.0.0/16", "255.0.0.0/8"}},
		{false, "10.0.0.0/15", []string{"0.0.0.0/0", "0.0.0.0/32", "10.0.0.0/8", "10.0.0.0/16", "10.0.0.0/32", "10.1.0.0/16", "255.0.0.0/8"}},
		{false, "10.0.0.0/16", []string{"0.0.0.0/0", "0.0.0.0/32", "10.0.0.0/8", "10.0.0.0/32", "10.1.0.0/16", "255.0.0.0/8"}},
		{false, "0.0.0.0/0", []string{"0.0.0.0/32", "10.0.0.0/8", "10.0.0.0/32", "10.1.0.0/16", "255.0.0.0/8"}},
		{false, "10.0.0.0/8", []string{"0.0.0.0/32", "10.0.0.0/32", "10.1.0.0/16", "255.0.0.0/8"}},
		{false, "255.0.0.0/8", []string{"0.0.0.0/32", "10.0.0.0/32", "10.1.0.0/16"}},
		{false, "0.0.0.0/32", []string{"10.0.0.0/32", "10.1.0.0/16"}},
		{false, "10.1.0.0/16", []string{"10.0.0.0/32"}},
		{false, "10.0.0.0/32", nil},
	} {
		if c.put {
			x.Set(px(t, c.p), 5)
		} else {
			x.Del(px(t, c.p))
		}
		if got := x.Walk(); !slices.Equal(got, row(t, c.want...)) || x.Len() != len(c.want) {
			t.Errorf("%v %s: %v, %d", c.put, c.p, got, x.Len())
		}
	}
}

// P9.2: the chapter's example, and what else it names.
func TestNodes(t *testing.T) {
	for _, c := range []struct {
		l    []string
		want int
	}{
		{nil, 0},
		{[]string{"0.0.0.0/0"}, 1},
		{[]string{"255.255.255.255/32"}, 1},
		{[]string{"10.1.0.0/16"}, 1},
		{[]string{"10.0.0.0/16", "10.1.0.0/16"}, 3},
		// Each covers the next: no fork.
		{[]string{"0.0.0.0/0", "10.0.0.0/8", "10.1.0.0/16", "10.1.2.0/24", "10.1.2.3/32"}, 5},
		// The fork is there itself: it counts once.
		{[]string{"10.0.0.0/15", "10.0.0.0/16", "10.1.0.0/16"}, 3},
		{[]string{"0.0.0.0/0", "0.0.0.0/1", "128.0.0.0/1"}, 3},
		{[]string{"0.0.0.0/1", "128.0.0.0/1"}, 3},
		{[]string{"0.0.0.0/32", "255.255.255.255/32"}, 3},
		{[]string{"10.1.2.2/32", "10.1.2.3/32"}, 3},
		// One above does not hinder a fork below: 10.0.0.0/15.
		{[]string{"10.0.0.0/8", "10.0.0.0/16", "10.1.0.0/16"}, 4},
		// One half covers another: one fork, 10.0.0.0/15.
		{[]string{"10.0.0.0/16", "10.0.0.0/24", "10.1.0.0/16"}, 4},
		// Forks 10.0.0.0/15 and 10.0.0.0/14; then 10.2.0.0/15 too.
		{[]string{"10.0.0.0/16", "10.1.0.0/16", "10.2.0.0/16"}, 5},
		{[]string{"10.0.0.0/16", "10.1.0.0/16", "10.2.0.0/16", "10.3.0.0/16"}, 7},
		// Far apart, of other Lens: the fork is where they part, 8.0.0.0/6.
		{[]string{"10.1.2.3/32", "8.0.0.0/7"}, 3},
		{[]string{"0.0.0.0/32", "128.0.0.0/1"}, 3},
	} {
		x, m := laid(t, c.l...)
		if got := x.Nodes(); got != c.want || m.nodes() != c.want {
			t.Errorf("%v: %d", c.l, got)
		}
		backwards := slices.Clone(c.l)
		slices.Reverse(backwards)
		if y, _ := laid(t, backwards...); y.Nodes() != c.want {
			t.Errorf("%v: %d", backwards, y.Nodes())
		}
	}
}

// P9.2: Nodes behind a Del that leaves no fork, and where a fork becomes a
// prefix that is there and is taken away again.
func TestNodesBehindDel(t *testing.T) {
	x := New()
	for _, c := range []struct {
		put  bool
		p    string
		want int
	}{
		{true, "10.0.0.0/16", 1},
		{true, "10.1.0.0/16", 3},
		{true, "10.0.0.0/15", 3}, // the fork is there now
		{false, "10.0.0.0/15", 3},
		{false, "10.0.0.0/15", 3},
		{true, "10.0.0.0/15", 3},
		{false, "10.1.0.0/16", 2}, // its other half stays
		{false, "10.0.0.0/15", 1},
		{true, "10.1.0.0/16", 3},
		{false, "10.0.0.0/16", 1}, // no fork is left
		{true, "10.1.128.0/24", 2},
		{true, "10.1.0.0/24", 3}, // 10.1.0.0/16 is there, and no fork
		{false, "10.1.0.0/16", 3},
		{false, "10.1.0.0/24", 1},
		{true, "10.0.0.0/32", 3},
		{true, "0.0.0.0/0", 4},
		{false, "10.1.128.0/24", 2},
		{false, "10.0.0.0/32", 1},
		{false, "0.0.0.0/0", 0},
		{false, "0.0.0.0/0", 0},
	} {
		if c.put {
			x.Set(px(t, c.p), 5)
		} else {
			x.Del(px(t, c.p))
		}
		if got := x.Nodes(); got != c.want {
			t.Errorf("%v %s: %d, want %d", c.put, c.p, got, c.want)
		}
	}
}

// P9.1 to P9.3: each of the 2^15 sets of prefixes with three bits, and elsewhere
// some of them: laid in some order, or reached by taking away what is not of it,
// all is told as it should.
func TestEverySmallSet(t *testing.T) {
	r := rand.New(rand.NewSource(2))
	for place, l := range smalls() {
		for choice := range 1 << len(l) {
			if place > 0 && r.Intn(30) > 0 {
				continue
			}
			m, x, y := plain{}, New(), New()
			for _, i := range r.Perm(len(l)) {
				y.Set(l[i], i)
				if choice>>i&1 == 1 {
					m[l[i]] = i
					x.Set(l[i], i)
				}
			}
			for _, i := range r.Perm(len(l)) {
				if choice>>i&1 == 0 && !y.Del(l[i]) {
					t.Fatalf("%v was there", l[i])
				}
			}
			hold(t, x, m)
			hold(t, y, m)
			if r.Intn(10) > 0 {
				continue
			}
			for _, p := range l {
				holdPrefix(t, x, m, p)
				holdPrefix(t, y, m, p)
			}
		}
	}
}

// some is a prefix that may be: near others, so that many cover each other, or
// anywhere.
func some(r *rand.Rand) api.Prefix {
	a := uint32(r.Intn(4))<<30 | uint32(r.Intn(4))<<15 | uint32(r.Intn(4))
	if r.Intn(4) == 0 {
		a = r.Uint32()
	}
	n := r.Intn(33)
	return api.Prefix{Addr: uint32(first(a, n) << (32 - n)), Len: n}
}

// P9.1, P9.2: long rows of calls, held against the plain words behind each.
func TestLongRows(t *testing.T) {
	for seed := range int64(9) {
		r := rand.New(rand.NewSource(seed))
		x, m := New(), plain{}
		for i := range 600 {
			p := some(r)
			if there := m.walk(); len(there) > 0 && r.Intn(3) == 0 {
				p = there[r.Intn(len(there))]
			}
			if r.Intn(20) < 9+int(seed)%3 {
				del(t, x, m, p)
			} else {
				set(t, x, m, p, i-300)
			}
			hold(t, x, m)
			holdPrefix(t, x, m, p)
			holdPrefix(t, x, m, some(r))
			holdAddress(t, x, m, r.Uint32())
		}
	}
}

// P9.3: the same prefixes, laid in another order, or with others laid and taken
// away between, tell the same.
func TestWhatIsThereAlone(t *testing.T) {
	r := rand.New(rand.NewSource(3))
	for range 200 {
		m := plain{}
		for i := range r.Intn(60) {
			m[some(r)] = i
		}
		l := m.walk()
		x, y := New(), New()
		for _, i := range r.Perm(len(l)) {
			x.Set(l[i], m[l[i]])
		}
		var others []api.Prefix
		for _, i := range r.Perm(len(l)) {
			o := some(r)
			y.Set(o, -1)
			others = append(others, o)
			y.Set(l[i], -2)
			if r.Intn(2) == 0 {
				y.Del(l[i])
			}
			y.Set(api.Prefix{Addr: 1, Len: 0}, 9)
		}
		for _, o := range others {
			y.Del(o)
		}
		for _, i := range r.Perm(len(l)) {
			y.Set(l[i], m[l[i]])
		}
		hold(t, x, m)
		hold(t, y, m)
		for _, p := range append(others, l...) {
			holdPrefix(t, x, m, p)
			holdPrefix(t, y, m, p)
		}
	}
}

// W2: what is asked changes nothing that is told.
func TestAskingChangesNothing(t *testing.T) {
	r := rand.New(rand.NewSource(4))
	x, m := New(), plain{}
	for i := range 80 {
		set(t, x, m, some(r), i)
	}
	for range 2000 {
		p := some(r)
		x.Get(p)
		x.Longest(p.Addr)
		x.Covers(p)
	}
	hold(t, x, m)
	for p := range m {
		holdPrefix(t, x, m, p)
	}
}

// Ways: a path without a fork is one step: no node of the tree is there but for
// what is there and for forks, whatever was laid and taken away.
func TestPathsAreOneStep(t *testing.T) {
	x, _ := laid(t, "0.0.0.0/0", "10.1.2.3/32")
	if n := x.root.kids[0]; n == nil || n.prefix != px(t, "10.1.2.3/32") {
		t.Errorf("%v", n)
	}
	r := rand.New(rand.NewSource(5))
	for range 3000 {
		if p := some(r); r.Intn(2) == 0 {
			x.Del(p)
		} else {
			x.Set(p, 3)
		}
		oneStep(t, x.root)
	}
}

// oneStep goes through a tree: each node is there or forks, and its kids are
// longer and in the halves where they belong.
func oneStep(t *testing.T, n *node) {
	t.Helper()
	if n == nil {
		return
	}
	if !n.there && (n.kids[0] == nil || n.kids[1] == nil || n.number != 0) {
		t.Fatalf("%v is neither there nor a fork", n.prefix)
	}
	for i, kid := range n.kids {
		if kid == nil {
			continue
		}
		if kid.prefix.Len <= n.prefix.Len || !covers(n.prefix, kid.prefix) || int(first(kid.prefix.Addr, n.prefix.Len+1)%2) != i {
			t.Fatalf("%v under %v", kid.prefix, n.prefix)
		}
		oneStep(t, kid)
	}
}

// P9.3, W8: of a nil Trie Set answers ErrArg, all else nothing.
func TestNilTrie(t *testing.T) {
	var x *Trie
	for _, p := range append(wrong(), row(t, "0.0.0.0/0", "10.0.0.0/8", "255.255.255.255/32")...) {
		if e := x.Set(p, 1); e != api.ErrArg {
			t.Errorf("Set(%v): %v", p, e)
		}
		if x.Del(p) {
			t.Errorf("Del(%v)", p)
		}
		if v, ok := x.Get(p); v != 0 || ok {
			t.Errorf("Get(%v): %d, %v", p, v, ok)
		}
		if l := x.Covers(p); len(l) != 0 {
			t.Errorf("Covers(%v): %v", p, l)
		}
		if q, v, ok := x.Longest(p.Addr); q != (api.Prefix{}) || v != 0 || ok {
			t.Errorf("Longest(%#x): %v, %d, %v", p.Addr, q, v, ok)
		}
	}
	if l := x.Walk(); len(l) != 0 || x.Len() != 0 || x.Nodes() != 0 {
		t.Errorf("%v, %d, %d", l, x.Len(), x.Nodes())
	}
}

// New is one of none, each its own; one that is copied goes on as the copy.
func TestNew(t *testing.T) {
	x, m := New(), plain{}
	if x == nil {
		t.Fatal("nil")
	}
	hold(t, x, m)
	for _, p := range row(t, "0.0.0.0/0", "10.0.0.0/8", "255.255.255.255/32", "0.0.0.0/32") {
		holdPrefix(t, x, m, p)
		if x.Del(p) {
			t.Errorf("Del(%v)", p)
		}
	}
	y, n := New(), plain{}
	set(t, x, m, px(t, "10.0.0.0/8"), 4)
	hold(t, y, n)
	set(t, y, n, px(t, "10.0.0.0/8"), 5)
	holdPrefix(t, x, m, px(t, "10.0.0.0/8"))
	holdPrefix(t, y, n, px(t, "10.0.0.0/8"))
	del(t, y, n, px(t, "10.0.0.0/8"))
	hold(t, x, m)
	hold(t, y, n)

	z := *x
	set(t, &z, m, px(t, "0.0.0.0/0"), 6)
	set(t, &z, m, px(t, "11.0.0.0/8"), 7)
	del(t, &z, m, px(t, "10.0.0.0/8"))
	hold(t, &z, m)

	var zero Trie
	none := plain{}
	hold(t, &zero, none)
	set(t, &zero, none, px(t, "10.0.0.0/8"), 8)
	hold(t, &zero, none)
}

// spoil writes into a row and the spare room behind it.
func spoil(l []api.Prefix) {
	l = l[:cap(l)]
	for i := range l {
		l[i] = api.Prefix{Addr: 0xdeadbeef, Len: 77}
	}
}

// W6, W7: a row that was answered stays what it is, whatever is called later,
// and writing into it changes nothing that is told.
func TestNewMemory(t *testing.T) {
	texts := []string{"0.0.0.0/0", "10.0.0.0/8", "10.1.0.0/16", "10.1.2.0/24", "10.1.2.3/32", "11.0.0.0/8", "11.1.0.0/16"}
	deep := px(t, "10.1.2.3/32")
	for n := range len(texts) + 1 {
		x, m := laid(t, texts[:n]...)
		for _, ask := range []func() []api.Prefix{x.Walk, func() []api.Prefix { return x.Covers(deep) }} {
			kept := ask()
			was := slices.Clone(kept)
			other := ask()
			spoil(other)
			if !slices.Equal(kept, was) || !slices.Equal(ask(), was) {
				t.Fatalf("%v: %v, was %v", texts[:n], kept, was)
			}
			hold(t, x, m)
			for p := range m {
				holdPrefix(t, x, m, p)
			}

			for _, s := range texts {
				x.Del(px(t, s))
			}
			for i, s := range []string{"10.1.2.3/32", "128.0.0.0/1", "0.0.0.0/0"} {
				x.Set(px(t, s), 50+i)
			}
			ask()
			if !slices.Equal(kept, was) {
				t.Fatalf("%v: %v, was %v", texts[:n], kept, was)
			}
			for _, p := range x.Walk() {
				x.Del(p)
			}
			for p, v := range m {
				x.Set(p, v)
			}
		}
	}
}
