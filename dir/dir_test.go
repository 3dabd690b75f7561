package dir

import (
	"math"
	"math/rand"
	"slices"
	"testing"

	"castellan/addr"
	"castellan/api"
	"castellan/trie"
)

// plain is what is there, as the chapter's words have it: every promise is told
// anew from this alone, by going through all of it.
type plain map[api.Prefix]int

// first is an address's first n bits, as a prefix.
func first(a uint32, n int) api.Prefix {
	return api.Prefix{Addr: uint32(uint64(a) >> (32 - n) << (32 - n)), Len: n}
}

// isPrefix is chapter 3's Is, in other words: no bit behind the first Len.
func isPrefix(p api.Prefix) bool {
	return p.Len >= 0 && p.Len <= 32 && first(p.Addr, p.Len) == p
}

// last is a prefix's last address.
func last(p api.Prefix) uint32 {
	return uint32(uint64(p.Addr) + 1<<(32-p.Len) - 1)
}

// look is P10.1's Look.
func (m plain) look(a uint32) (int, bool) {
	for n := 32; n >= 0; n-- {
		if v, ok := m[first(a, n)]; ok {
			return v, true
		}
	}
	return 0, false
}

// blocks is how many are owned: by upper halves that have a prefix longer than
// 16, and by upper 24 bits that have one longer than 24.
func (m plain) blocks() int {
	owners := map[api.Prefix]int{}
	for p := range m {
		for _, n := range []int{16, 24} {
			if p.Len > n {
				owners[first(p.Addr, n)]++
			}
		}
	}
	return len(owners)
}

// with is m and p.
func (m plain) with(p api.Prefix, v int) plain {
	n := plain{p: v}
	for q, w := range m {
		if q != p {
			n[q] = w
		}
	}
	return n
}

// set is P10.1's Set, where so many blocks may be.
func (m plain) set(p api.Prefix, v, most int) api.Errno {
	if !isPrefix(p) || v < 0 {
		return api.ErrArg
	}
	if m.with(p, v).blocks() > max(most, 0) {
		return api.ErrFull
	}
	m[p] = v
	return api.OK
}

// del is P10.1's Del.
func (m plain) del(p api.Prefix) bool {
	_, ok := m[p]
	delete(m, p)
	return ok
}

// row is all of m, in order.
func (m plain) row() []api.Prefix {
	var l []api.Prefix
	for p := range m {
		l = append(l, p)
	}
	slices.SortFunc(l, func(p, q api.Prefix) int {
		if p.Addr != q.Addr {
			if p.Addr < q.Addr {
				return -1
			}
			return 1
		}
		return p.Len - q.Len
	})
	return l
}

// holdAddress holds what d tells of an address against m.
func holdAddress(t *testing.T, d *Dir, m plain, a uint32) {
	t.Helper()
	v, ok := d.Look(a)
	if w, is := m.look(a); v != w || ok != is {
		t.Fatalf("Look(%s): %d, %v, want %d, %v, of %v", addr.Print(a), v, ok, w, is, m)
	}
}

// holdEnds holds what d tells of a prefix's ends, and of one beyond them,
// against m.
func holdEnds(t *testing.T, d *Dir, m plain, p api.Prefix) {
	t.Helper()
	for _, a := range []uint32{p.Addr, last(p), p.Addr - 1, last(p) + 1} {
		holdAddress(t, d, m, a)
	}
}

// holdCounts holds Blocks and Len against m.
func holdCounts(t *testing.T, d *Dir, m plain) {
	t.Helper()
	if got, want := d.Blocks(), m.blocks(); got != want {
		t.Fatalf("Blocks: %d, want %d, of %v", got, want, m)
	}
	if got := d.Len(); got != len(m) {
		t.Fatalf("Len: %d of %v", got, m)
	}
}

// hold holds all that d tells against m.
func hold(t *testing.T, d *Dir, m plain) {
	t.Helper()
	holdCounts(t, d, m)
	for p := range m {
		holdEnds(t, d, m, p)
	}
	for _, p := range ends() {
		holdEnds(t, d, m, p)
	}
}

// ends is a prefix of each length, at the first address and at the last.
func ends() []api.Prefix {
	var l []api.Prefix
	for n := range 33 {
		l = append(l, first(0, n), first(math.MaxUint32, n))
	}
	return l
}

// px is a text as a prefix.
func px(t *testing.T, s string) api.Prefix {
	t.Helper()
	p, e := addr.ParsePrefix(s)
	if e != api.OK || !isPrefix(p) {
		t.Fatal(s)
	}
	return p
}

// at is a text as an address.
func at(t *testing.T, s string) uint32 {
	t.Helper()
	a, e := addr.Parse(s)
	if e != api.OK {
		t.Fatal(s)
	}
	return a
}

// laid10 is one with so many blocks, in which the prefixes have the numbers 10,
// 11, 12 and so on.
func laid10(t *testing.T, blocks int, texts ...string) (*Dir, plain) {
	t.Helper()
	d, m := New(blocks), plain{}
	for i, s := range texts {
		p := px(t, s)
		if e := d.Set(p, 10+i); e != api.OK {
			t.Fatalf("Set(%s): %v", s, e)
		}
		m[p] = 10 + i
	}
	return d, m
}

// wrong is prefixes that may not be.
func wrong() []api.Prefix {
	l := []api.Prefix{
		{Len: -1}, {Len: 33}, {Len: math.MinInt}, {Len: math.MaxInt}, {Len: 64}, {Len: 256}, {Len: 1 << 32},
		{Addr: 10 << 24, Len: -24}, {Addr: 10 << 24, Len: 40}, {Addr: math.MaxUint32, Len: 33}, {Addr: math.MaxUint32, Len: math.MinInt},
	}
	for n := range 32 {
		l = append(l, api.Prefix{Addr: 1, Len: n}, api.Prefix{Addr: 1 << (31 - n), Len: n}, api.Prefix{Addr: math.MaxUint32, Len: n})
	}
	return l
}

// P10.1: New's number is how many blocks may be owned; below 0, none may.
func TestNew(t *testing.T) {
	one, two := api.Prefix{Addr: 10 << 24, Len: 24}, api.Prefix{Addr: 11 << 24, Len: 32}
	for _, c := range []struct {
		blocks   int
		one, two api.Errno // of a prefix that wants one block, then of one that wants two
	}{
		{math.MinInt, api.ErrFull, api.ErrFull},
		{-2, api.ErrFull, api.ErrFull},
		{-1, api.ErrFull, api.ErrFull},
		{0, api.ErrFull, api.ErrFull},
		{1, api.OK, api.ErrFull},
		{2, api.OK, api.ErrFull},
		{3, api.OK, api.OK},
		{4, api.OK, api.OK},
		{math.MaxInt, api.OK, api.OK},
	} {
		d, m := New(c.blocks), plain{}
		if d == nil {
			t.Fatal("nil")
		}
		hold(t, d, m)
		if e, f := d.Set(one, 1), d.Set(two, 2); e != c.one || f != c.two {
			t.Errorf("%d: %v, %v", c.blocks, e, f)
		}
		// What wants no block goes in always.
		for i, p := range []api.Prefix{{}, {Addr: 10 << 24, Len: 16}, {Addr: 128 << 24, Len: 1}} {
			if e := d.Set(p, i); e != api.OK {
				t.Errorf("%d: %v: %v", c.blocks, p, e)
			}
			m[p] = i
		}
		if c.one == api.OK {
			m[one] = 1
		}
		if c.two == api.OK {
			m[two] = 2
		}
		hold(t, d, m)
	}
}

// P10.1: as many blocks as prefixes want are enough, and one less is not,
// wherever the last of them stands.
func TestOneBlockLess(t *testing.T) {
	l := []string{"10.0.0.0/25", "10.0.1.0/24", "10.0.1.7/32", "10.1.0.0/17", "0.0.0.0/32", "255.255.255.255/32", "10.0.0.128/25", "10.0.0.0/16"}
	all := plain{}
	for _, s := range l {
		all[px(t, s)] = 1
	}
	want := all.blocks()
	if want != 8 {
		t.Fatal(want)
	}
	r := rand.New(rand.NewSource(1))
	for most := range want + 2 {
		for range 20 {
			d, m := New(most), plain{}
			for i, k := range r.Perm(len(l)) {
				p := px(t, l[k])
				if got, e := d.Set(p, i), m.set(p, i, most); got != e {
					t.Fatalf("%d: Set(%v): %v, want %v", most, p, got, e)
				}
				hold(t, d, m)
			}
			if (d.Len() == len(l)) != (most >= want) {
				t.Fatalf("%d: %d are there", most, d.Len())
			}
		}
	}
}

// P10.1: Set answers ErrArg of a prefix that may not be, and of a number below
// 0, also where ErrFull applies, and changes nothing.
func TestSetWrong(t *testing.T) {
	for _, texts := range [][]string{
		nil,
		{"0.0.0.0/0"},
		{"0.0.0.0/0", "10.0.0.0/8", "10.0.0.0/16", "10.0.0.0/17", "10.0.0.0/24", "10.0.0.0/25", "10.0.0.0/32"},
	} {
		d, m := laid10(t, 2, texts...)
		for _, p := range wrong() {
			for _, v := range []int{0, 1, math.MaxInt, -1, math.MinInt} {
				if e := d.Set(p, v); e != api.ErrArg {
					t.Fatalf("Set(%v, %d): %v", p, v, e)
				}
			}
			holdCounts(t, d, m)
		}
		hold(t, d, m)
		// Some of these are there, some want blocks that may not be.
		for _, s := range []string{"0.0.0.0/0", "10.0.0.0/8", "10.0.0.0/16", "10.0.0.0/17", "10.0.0.0/24", "10.0.0.0/25", "10.0.0.0/32", "11.0.0.0/8", "11.0.0.0/17", "11.0.0.0/25", "11.0.0.0/32"} {
			for _, v := range []int{-1, -2, math.MinInt} {
				if e := d.Set(px(t, s), v); e != api.ErrArg {
					t.Fatalf("Set(%s, %d): %v", s, v, e)
				}
			}
			hold(t, d, m)
		}
	}
}

// P10.1: Set answers ErrFull where more blocks would be owned than may be, and
// changes nothing: what wants two doesn't take the one that is left.
func TestSetFull(t *testing.T) {
	for _, c := range []struct {
		blocks  int
		there   []string
		refused []string
		taken   []string
	}{
		{0, nil, []string{"10.0.0.0/17", "10.0.0.0/24", "10.0.0.0/25", "10.0.0.0/32", "0.0.0.0/17", "255.255.255.255/32"}, []string{"0.0.0.0/0", "10.0.0.0/16"}},
		{1, nil, []string{"10.0.0.0/25", "0.0.0.0/32", "255.255.255.255/32"}, []string{"10.0.0.0/17"}},
		{1, []string{"10.0.0.0/17"}, []string{"10.0.0.0/25", "10.0.128.0/32", "10.1.0.0/17", "9.255.128.0/17", "10.1.0.0/32"}, []string{"10.0.128.0/17", "10.0.0.0/24", "10.0.255.0/24", "10.1.0.0/16"}},
		{2, []string{"10.0.0.0/17"}, []string{"10.1.0.0/25", "9.255.255.255/32"}, []string{"10.0.0.0/25", "10.0.0.255/32"}},
		{2, []string{"10.0.0.0/17"}, []string{"10.1.0.0/25"}, []string{"10.1.0.0/24", "10.1.255.0/24"}},
		{2, []string{"10.0.0.0/25"}, []string{"10.0.1.0/25", "10.0.1.0/32", "10.1.0.0/17", "10.1.0.0/25"}, []string{"10.0.0.128/25", "10.0.0.255/32", "10.0.1.0/24", "10.0.128.0/17"}},
		{3, []string{"10.0.0.0/25"}, []string{"10.1.0.0/25"}, []string{"10.0.1.0/25"}},
		{3, []string{"10.0.0.0/25", "11.0.0.0/17"}, []string{"11.0.0.0/25", "12.0.0.0/17"}, []string{"11.0.255.0/24"}},
	} {
		d, m := laid10(t, c.blocks, c.there...)
		for i, s := range c.refused {
			p := px(t, s)
			if e := d.Set(p, i); e != api.ErrFull {
				t.Fatalf("%v: Set(%s): %v", c.there, s, e)
			}
			if d.Del(p) {
				t.Fatalf("%v: %s is there", c.there, s)
			}
			hold(t, d, m)
			holdEnds(t, d, m, p)
		}
		for i, s := range c.taken {
			p := px(t, s)
			if e := d.Set(p, i); e != api.OK {
				t.Fatalf("%v: Set(%s): %v", c.there, s, e)
			}
			m[p] = i
			hold(t, d, m)
		}
	}
}

// P10.1: a prefix of each length, at both ends of all addresses and between:
// its first and last address are told, and one beyond is not.
func TestSetLengths(t *testing.T) {
	var l []api.Prefix
	l = append(l, ends()...)
	for n := range 33 {
		l = append(l, first(0x0a010203, n), first(0x8000ffff, n))
	}
	for _, base := range []string{"", "0.0.0.0/0"} {
		d, m := New(2), plain{}
		if base != "" {
			d, m = laid10(t, 2, base)
		}
		for i, p := range l {
			if p.Len == 0 && base != "" {
				continue
			}
			if e := d.Set(p, i); e != api.OK {
				t.Fatalf("Set(%v): %v", p, e)
			}
			m[p] = i
			holdCounts(t, d, m)
			holdEnds(t, d, m, p)
			if v, ok := d.Look(p.Addr); v != i || !ok {
				t.Fatalf("%v: %d, %v", p, v, ok)
			}
			if !d.Del(p) {
				t.Fatalf("%v was there", p)
			}
			delete(m, p)
			holdCounts(t, d, m)
			holdEnds(t, d, m, p)
		}
	}
}

// P10.1: a prefix that is there has the new number behind Set, 0 too, also
// where no block is left, and nothing else has.
func TestSetAnew(t *testing.T) {
	l := []string{"0.0.0.0/0", "10.0.0.0/16", "10.0.0.0/17", "10.0.0.0/24", "10.0.0.0/25", "10.0.0.0/32", "10.0.0.128/25", "11.0.0.0/8"}
	d, m := laid10(t, 2, l...)
	for _, v := range []int{0, 7, 7, math.MaxInt, 0} {
		for _, s := range l {
			p := px(t, s)
			if e := d.Set(p, v); e != api.OK {
				t.Fatalf("Set(%s, %d): %v", s, v, e)
			}
			m[p] = v
			hold(t, d, m)
		}
	}
	for i, s := range l {
		if !d.Del(px(t, s)) {
			t.Fatal(s)
		}
		delete(m, px(t, s))
		hold(t, d, m)
		if e := d.Set(px(t, s), i); e != api.OK {
			t.Fatalf("%s: %v", s, e)
		}
		m[px(t, s)] = i
		hold(t, d, m)
	}
}

// P10.1: Del tells whether it was there, and takes away that one alone.
func TestDel(t *testing.T) {
	l := []string{"0.0.0.0/0", "10.0.0.0/8", "10.0.0.0/16", "10.0.0.0/17", "10.0.0.0/23", "10.0.0.0/24", "10.0.0.0/25", "10.0.0.0/31", "10.0.0.0/32", "10.0.0.1/32", "10.0.1.0/24", "10.1.0.0/16"}
	r := rand.New(rand.NewSource(2))
	for range 30 {
		d, m := laid10(t, 2, l...)
		for _, i := range r.Perm(len(l)) {
			for _, s := range []string{"0.0.0.0/1", "10.0.0.0/7", "10.0.0.0/9", "10.0.0.0/15", "10.0.0.0/18", "10.0.0.0/22", "10.0.0.0/26", "10.0.0.2/32", "10.0.2.0/24", "11.0.0.0/16", "128.0.0.0/32"} {
				if d.Del(px(t, s)) {
					t.Fatalf("Del(%s)", s)
				}
			}
			for _, p := range wrong() {
				if d.Del(p) {
					t.Fatalf("Del(%v)", p)
				}
			}
			hold(t, d, m)
			p := px(t, l[i])
			if !d.Del(p) {
				t.Fatalf("Del(%s): it was there", l[i])
			}
			delete(m, p)
			hold(t, d, m)
			holdEnds(t, d, m, p)
			if d.Del(p) {
				t.Fatalf("Del(%s) again", l[i])
			}
			hold(t, d, m)
		}
		if d.Len() != 0 || d.Blocks() != 0 {
			t.Fatal(d.Len(), d.Blocks())
		}
	}
}

// P10.1: a prefix that comes and goes leaves all as it was, whatever it covered
// or was covered by.
func TestComesAndGoes(t *testing.T) {
	d, m := laid10(t, 20, "10.0.0.0/8", "10.0.0.0/15", "10.0.0.0/16", "10.0.64.0/18", "10.0.64.0/23", "10.0.64.0/24", "10.0.64.64/26", "10.0.64.64/31", "10.0.64.64/32", "10.0.65.1/32", "10.1.0.0/17")
	blocks := d.Blocks()
	for _, a := range []uint32{at(t, "10.0.64.64"), at(t, "10.0.64.65"), at(t, "10.0.65.1"), at(t, "10.1.0.0"), at(t, "11.0.0.0"), 0, math.MaxUint32} {
		for n := range 33 {
			p := first(a, n)
			if _, is := m[p]; is {
				continue
			}
			if e := d.Set(p, 99); e != api.OK {
				t.Fatalf("Set(%v): %v", p, e)
			}
			more := m.with(p, 99)
			hold(t, d, more)
			if !d.Del(p) {
				t.Fatalf("Del(%v)", p)
			}
			hold(t, d, m)
			holdEnds(t, d, m, p)
			if d.Blocks() != blocks {
				t.Fatalf("%v: %d blocks, were %d", p, d.Blocks(), blocks)
			}
		}
	}
}

// P10.1: Look, step by step: a shorter one comes and goes behind longer ones,
// and a longer one behind shorter ones.
func TestLook(t *testing.T) {
	d := New(2)
	for i, c := range []struct {
		put  bool
		p    string
		a    string
		want int // -1: none
	}{
		{true, "10.0.0.0/32", "10.0.0.0", 0},
		{true, "10.0.0.0/24", "10.0.0.0", 0},
		{true, "10.0.0.0/25", "10.0.0.1", 2},
		{true, "10.0.0.0/16", "10.0.0.127", 2},
		{true, "10.0.0.0/17", "10.0.0.128", 1},
		{true, "10.0.0.0/8", "10.0.1.0", 4},
		{true, "0.0.0.0/0", "10.0.128.0", 3},
		{true, "10.0.0.0/23", "10.0.1.255", 7},
		{false, "10.0.0.0/32", "10.0.0.0", 2},
		{false, "10.0.0.0/16", "10.0.128.0", 5},
		{false, "10.0.0.0/17", "10.0.2.0", 5},
		{false, "10.0.0.0/24", "10.0.0.128", 7},
		{false, "10.0.0.0/8", "10.0.2.0", 6},
		{true, "10.0.0.0/15", "10.1.255.255", 13},
		{true, "10.0.0.0/14", "10.1.255.255", 13},
		{false, "10.0.0.0/15", "10.1.255.255", 14},
		{false, "0.0.0.0/0", "10.4.0.0", -1},
		{false, "10.0.0.0/25", "10.0.0.0", 7},
		{false, "10.0.0.0/23", "10.0.0.0", 14},
		{false, "10.0.0.0/14", "10.0.0.0", -1},
	} {
		if c.put {
			if e := d.Set(px(t, c.p), i); e != api.OK {
				t.Fatal(c.p, e)
			}
		} else if !d.Del(px(t, c.p)) {
			t.Fatal(c.p)
		}
		v, ok := d.Look(at(t, c.a))
		if ok != (c.want >= 0) || v != max(c.want, 0) {
			t.Errorf("%d: Look(%s): %d, %v", i, c.a, v, ok)
		}
	}
}

// P10.1: the chapter's example, and what else its words name.
func TestBlocks(t *testing.T) {
	for _, c := range []struct {
		l    []string
		want int
	}{
		{nil, 0},
		{[]string{"10.0.0.0/25", "10.0.1.0/24"}, 2},
		{[]string{"0.0.0.0/0"}, 0},
		{[]string{"10.0.0.0/16"}, 0},
		{[]string{"10.0.0.0/17"}, 1},
		{[]string{"10.0.0.0/24"}, 1},
		{[]string{"10.0.0.0/25"}, 2},
		{[]string{"10.0.0.0/32"}, 2},
		{[]string{"10.0.0.0/17", "10.0.128.0/17"}, 1},
		{[]string{"10.0.0.0/17", "10.1.0.0/17"}, 2},
		{[]string{"10.0.0.0/25", "10.0.0.128/25"}, 2},
		{[]string{"10.0.0.0/25", "10.0.1.0/25"}, 3},
		{[]string{"10.0.0.0/32", "10.0.0.255/32", "10.0.0.0/24", "10.0.0.0/17", "10.0.0.0/16"}, 2},
		// The same next byte under another upper half is another block.
		{[]string{"10.0.0.0/32", "10.1.0.0/32"}, 4},
		{[]string{"0.0.0.0/32", "255.255.255.255/32"}, 4},
	} {
		d, m := laid10(t, c.want, c.l...)
		if got := d.Blocks(); got != c.want || m.blocks() != c.want || d.Len() != len(c.l) {
			t.Errorf("%v: %d, %d", c.l, got, d.Len())
		}
	}
}

// P10.1: a block is given back where the last prefix goes that owned it, and
// what was refused for want of it goes in then.
func TestBlocksGivenBack(t *testing.T) {
	d, m := laid10(t, 3, "10.0.0.0/25", "10.0.0.128/32", "10.0.7.0/24", "11.0.0.0/17", "11.0.0.0/16")
	for i, c := range []struct {
		put    bool
		p      string
		e      api.Errno
		blocks int
	}{
		{true, "12.0.0.0/17", api.ErrFull, 3},
		{false, "11.0.0.0/16", api.OK, 3},
		{true, "12.0.0.0/17", api.ErrFull, 3},
		{false, "11.0.0.0/17", api.OK, 2},
		{true, "12.0.0.0/17", api.OK, 3},
		{true, "11.0.0.0/17", api.ErrFull, 3},
		{false, "10.0.0.0/25", api.OK, 3}, // its block is 10.0.0.128/32's too
		{true, "10.0.7.0/25", api.ErrFull, 3},
		{false, "10.0.0.128/32", api.OK, 2}, // the upper half's is 10.0.7.0/24's too
		{true, "10.0.7.0/25", api.OK, 3},
		{false, "10.0.7.0/24", api.OK, 3},
		{true, "13.0.0.0/25", api.ErrFull, 3},
		{false, "10.0.7.0/25", api.OK, 1}, // both at once
		{true, "13.0.0.0/25", api.OK, 3},
		{true, "13.0.0.0/18", api.OK, 3},
		{true, "13.0.0.0/17", api.OK, 3}, // behind a longer one
		{false, "13.0.0.0/18", api.OK, 3},
		{false, "13.0.0.0/25", api.OK, 2},
		{false, "13.0.0.0/17", api.OK, 1},
		{false, "12.0.0.0/17", api.OK, 0},
		{true, "10.0.0.0/32", api.OK, 2},
	} {
		p := px(t, c.p)
		if !c.put {
			if !d.Del(p) || !m.del(p) {
				t.Fatalf("%d: Del(%s)", i, c.p)
			}
		} else if e := d.Set(p, i); e != c.e || m.set(p, i, 3) != c.e {
			t.Fatalf("%d: Set(%s): %v", i, c.p, e)
		}
		if d.Blocks() != c.blocks {
			t.Fatalf("%d: %s: %d blocks", i, c.p, d.Blocks())
		}
		hold(t, d, m)
		holdTables(t, d)
	}
}

// P10.1: Len, behind every Set and Del, also those to which nothing happens.
func TestLen(t *testing.T) {
	d := New(1)
	for i, c := range []struct {
		put  bool
		p    api.Prefix
		v    int
		want int
	}{
		{false, px(t, "10.0.0.0/8"), 0, 0},
		{true, px(t, "10.0.0.0/8"), 1, 1},
		{true, px(t, "10.0.0.0/8"), 1, 1},
		{true, px(t, "10.0.0.0/8"), 2, 1},
		{true, px(t, "10.0.0.0/9"), 2, 2},
		{true, px(t, "10.0.0.0/9"), -1, 2},
		{true, px(t, "10.0.0.0/17"), 2, 3},
		{true, px(t, "10.0.0.0/25"), 2, 3},
		{true, api.Prefix{Addr: 1, Len: 8}, 2, 3},
		{false, api.Prefix{Addr: 1, Len: 8}, 2, 3},
		{false, px(t, "10.0.0.0/25"), 0, 3},
		{false, px(t, "10.0.0.0/8"), 0, 2},
		{false, px(t, "10.0.0.0/8"), 0, 2},
		{false, px(t, "10.0.0.0/17"), 0, 1},
		{false, px(t, "10.0.0.0/9"), 0, 0},
	} {
		if c.put {
			d.Set(c.p, c.v)
		} else {
			d.Del(c.p)
		}
		if d.Len() != c.want {
			t.Errorf("%d: %d", i, d.Len())
		}
	}
}

// P10.1, P10.2: each of the 2^15 sets of prefixes with three bits more than so
// many, where tables begin and end: each is reached from another by one step.
func TestEverySmallSet(t *testing.T) {
	for _, base := range []int{13, 14, 15, 16, 21, 22, 23, 24, 29} {
		root := first(0x0a00ffff, base)
		var l []api.Prefix
		for more := range 4 {
			for i := range 1 << more {
				n := base + more
				l = append(l, api.Prefix{Addr: root.Addr + uint32(i)<<(32-n), Len: n})
			}
		}
		d, m := New(9), plain{}
		for step := 1; step < 1<<len(l); step++ {
			i := 0 // the lowest bit that is set: of two numbers behind each other in Gray's row it is the one that is another
			for step>>i&1 == 0 {
				i++
			}
			p := l[i]
			if _, is := m[p]; is {
				if !d.Del(p) {
					t.Fatalf("Del(%v)", p)
				}
				delete(m, p)
			} else {
				if e := d.Set(p, i); e != api.OK {
					t.Fatalf("Set(%v): %v", p, e)
				}
				m[p] = i
			}
			holdCounts(t, d, m)
			for _, q := range l[7:] {
				holdAddress(t, d, m, q.Addr)
			}
		}
	}
}

// some is a prefix that may be: near others, so that many cover each other and
// want the same blocks, or anywhere.
func some(r *rand.Rand) api.Prefix {
	a := uint32(r.Intn(2))<<31 | uint32(r.Intn(3))<<16 | uint32(r.Intn(3))<<8 | uint32(r.Intn(4))
	if r.Intn(6) == 0 {
		a = r.Uint32()
	}
	n := r.Intn(33)
	if r.Intn(2) == 0 {
		n = 14 + r.Intn(19)
	}
	return first(a, n)
}

// P10.1, P10.2: long rows of calls, with few blocks and with many, held behind
// each against the plain words, and against chapter 9's tree.
func TestLongRows(t *testing.T) {
	for seed, most := range []int{-1, 0, 1, 2, 3, 5, 9, 20, 1000} {
		r := rand.New(rand.NewSource(int64(seed)))
		d, m, x := New(most), plain{}, trie.New()
		for i := range 500 {
			p := some(r)
			if there := m.row(); len(there) > 0 && r.Intn(3) == 0 {
				p = there[r.Intn(len(there))]
			}
			switch r.Intn(20) {
			case 0:
				p.Len = 40 - p.Len
			case 1:
				p.Addr ^= 1 << r.Intn(32)
			}
			if r.Intn(20) < 8+seed%3 {
				was := m.del(p)
				if d.Del(p) != was || x.Del(p) != was {
					t.Fatalf("%d: Del(%v): %v", i, p, !was)
				}
			} else {
				e := m.set(p, i-9, most)
				if got := d.Set(p, i-9); got != e {
					t.Fatalf("%d: Set(%v): %v, want %v", i, p, got, e)
				}
				if e == api.OK {
					x.Set(p, i-9)
				}
			}
			holdCounts(t, d, m)
			if d.Blocks() > max(most, 0) {
				t.Fatalf("%d: %d blocks of %d", i, d.Blocks(), most)
			}
			for _, a := range []uint32{p.Addr, some(r).Addr, last(some(r)), r.Uint32()} {
				holdAddress(t, d, m, a)
				likeTree(t, d, x, a)
			}
		}
		hold(t, d, m)
		holdTables(t, d)
	}
}

// likeTree holds Look against chapter 9's Longest.
func likeTree(t *testing.T, d *Dir, x *trie.Trie, a uint32) {
	t.Helper()
	v, ok := d.Look(a)
	if _, w, is := x.Longest(a); v != w || ok != is {
		t.Fatalf("Look(%s): %d, %v, the tree: %d, %v", addr.Print(a), v, ok, w, is)
	}
}

// P10.2: what is told hangs on what is there alone, in whatever order it came,
// and whatever came and went between.
func TestWhatIsThereAlone(t *testing.T) {
	r := rand.New(rand.NewSource(5))
	for range 25 {
		m := plain{}
		for i := range r.Intn(60) {
			m[some(r)] = i
		}
		l := m.row()
		d, e, x := New(m.blocks()), New(1000), trie.New()
		var others []api.Prefix
		for _, i := range r.Perm(len(l)) {
			d.Set(l[i], m[l[i]])
			x.Set(l[i], m[l[i]])
			others = append(others, some(r))
			e.Set(others[len(others)-1], 7)
			e.Set(l[i], 8)
			if r.Intn(2) == 0 {
				e.Del(l[i])
			}
		}
		for _, p := range others {
			e.Del(p)
		}
		for _, i := range r.Perm(len(l)) {
			e.Set(l[i], m[l[i]])
		}
		hold(t, d, m)
		hold(t, e, m)
		for _, p := range append(others, l...) {
			for _, a := range []uint32{p.Addr, last(p), p.Addr - 1, last(p) + 1} {
				likeTree(t, d, x, a)
				likeTree(t, e, x, a)
			}
		}
	}
}

// W2: what is asked changes nothing that is told, and no Dir knows of another.
func TestAskingChangesNothing(t *testing.T) {
	r := rand.New(rand.NewSource(6))
	d, m := New(1000), plain{}
	for i := range 80 {
		p := some(r)
		d.Set(p, i)
		m[p] = i
	}
	other := New(1000)
	for range 2000 {
		d.Look(r.Uint32())
		d.Blocks()
		d.Len()
		if p := some(r); r.Intn(100) == 0 {
			other.Set(p, 7)
			other.Del(p)
		}
	}
	hold(t, d, m)
	hold(t, other, plain{})
}

// P10.2, W8: of a nil Dir Set answers ErrArg, all else nothing.
func TestNilDir(t *testing.T) {
	var d *Dir
	for _, p := range append(wrong(), ends()...) {
		for _, v := range []int{-1, 0, 1} {
			if e := d.Set(p, v); e != api.ErrArg {
				t.Errorf("Set(%v, %d): %v", p, v, e)
			}
		}
		if d.Del(p) {
			t.Errorf("Del(%v)", p)
		}
		if v, ok := d.Look(p.Addr); v != 0 || ok {
			t.Errorf("Look(%#x): %d, %v", p.Addr, v, ok)
		}
	}
	if d.Blocks() != 0 || d.Len() != 0 {
		t.Error(d.Blocks(), d.Len())
	}
}

// W1: one that is not from New has no block, and is used without a panic.
func TestZeroDir(t *testing.T) {
	var d Dir
	m := plain{}
	hold(t, &d, m)
	for i, s := range []string{"10.0.0.0/17", "10.0.0.0/32", "10.0.0.0/16", "0.0.0.0/0"} {
		p := px(t, s)
		if d.Del(p) {
			t.Error(s)
		}
		if e := d.Set(p, i); e != m.set(p, i, 0) {
			t.Errorf("%s: %v", s, e)
		}
		hold(t, &d, m)
	}
}

// Ways: the first table is made when it is first needed, and once.
func TestFirstTableIsMadeOnce(t *testing.T) {
	d := New(1)
	d.Set(api.Prefix{Addr: 1}, 1)
	d.Set(api.Prefix{}, -1)
	d.Set(api.Prefix{Len: 32}, 1)
	d.Del(api.Prefix{})
	d.Look(7)
	if d.first != nil {
		t.Fatal("it is there, and nothing needs it")
	}
	d.Set(api.Prefix{Len: 17}, 1)
	if len(d.first) != 65536 {
		t.Fatal(len(d.first))
	}
	was := &d.first[0]
	d.Set(api.Prefix{}, 1)
	d.Del(api.Prefix{})
	d.Del(api.Prefix{Len: 17})
	d.Set(api.Prefix{Len: 18}, 1)
	if &d.first[0] != was {
		t.Fatal("another one")
	}
}

// holdTables goes through the tables: there are as many blocks as are owned,
// none of them empty, and each place is painted with a prefix that is there,
// that has it, and that ends in its table.
func holdTables(t *testing.T, d *Dir) {
	t.Helper()
	blocks := 0
	var through func(table []place, a uint32, over, bits int)
	through = func(table []place, a uint32, over, bits int) {
		used := 0
		for i := range table {
			here := a | uint32(i)<<(32-bits)
			if by := table[i].by; by != nil {
				used++
				if by.bits > bits || by.bits < over || d.there[first(here, by.bits)] != by {
					t.Fatalf("%s: %v", addr.Print(here), *by)
				}
			}
			if b := table[i].block; b != nil {
				used++
				blocks++
				if bits == 32 {
					t.Fatalf("%s: a block behind the last bit", addr.Print(here))
				}
				through(b[:], here, bits+1, bits+8)
			}
		}
		if used == 0 && over > 0 {
			t.Fatalf("%s: an empty block", addr.Print(a))
		}
	}
	through(d.first, 0, 0, 16)
	if blocks != d.Blocks() {
		t.Fatalf("%d blocks are there, %d are told", blocks, d.Blocks())
	}
}

// Ways: places are painted anew where a prefix comes or goes: behind long rows
// of both nothing else is left in the tables.
func TestTablesBehindLongRows(t *testing.T) {
	r := rand.New(rand.NewSource(8))
	for range 6 {
		d, m := New(12), plain{}
		for i := range 150 {
			p := some(r)
			if there := m.row(); len(there) > 0 && r.Intn(2) == 0 {
				p = there[r.Intn(len(there))]
			}
			if r.Intn(2) == 0 {
				d.Del(p)
				m.del(p)
			} else {
				d.Set(p, i)
				m.set(p, i, 12)
			}
			if i%10 == 0 {
				holdTables(t, d)
			}
		}
		for p := range m {
			d.Del(p)
		}
		holdTables(t, d)
		hold(t, d, plain{})
	}
}
