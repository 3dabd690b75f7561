package match

import (
	"math"
	"math/rand"
	"reflect"
	"slices"
	"strings"
	"testing"

	"castellan/addr"
	"castellan/api"
	"castellan/rule"
)

// lens are Lens that may be, and such that may not.
var lens = []int{math.MinInt, math.MinInt32, -1 << 32, -33, -1, 0, 1, 2, 7, 8, 9, 16, 24, 31, 32, 33, 64, 1 << 32, 1<<32 + 8, math.MaxInt32, math.MaxInt}

// ends are addresses at which a part, a half or all of them ends.
var ends = []uint32{0, 1, 255, 256, 65535, 65536, 1<<24 - 1, 1 << 24, 10 << 24, 0x0a010203, 0x7fffffff, 0x80000000, 0xaaaaaaaa, 0xfffffffe, most}

// wild is numbers that are no port, some of them such by their lower bits alone.
var wild = []int{math.MinInt, math.MinInt32, -1 << 32, -1<<32 + 80, -65536 + 80, -1, 65536, 65536 + 80, 1 << 32, 1<<32 + 80, math.MaxInt32, math.MaxInt}

const most uint32 = math.MaxUint32

// every is the ports of which nothing is said.
var every = api.Ports{Low: 0, High: 65535}

// whole is a side of all.
var whole = api.Side{Any: true, Ports: every}

// all is a rule that means whatever comes.
var all = api.Rule{Pass: true, From: whole, To: whole, Type: -1}

// but is a rule with a change.
func but(r api.Rule, change func(*api.Rule)) api.Rule {
	change(&r)
	return r
}

// with is the rule of all, with a change.
func with(change func(*api.Rule)) api.Rule { return but(all, change) }

// px is a text as a prefix.
func px(t *testing.T, s string) api.Prefix {
	t.Helper()
	p, e := addr.ParsePrefix(s)
	if e != api.OK {
		t.Fatal(s)
	}
	return p
}

// ip is a text as an address.
func ip(t *testing.T, s string) uint32 {
	t.Helper()
	return px(t, s).Addr
}

// pxs is texts as prefixes.
func pxs(t *testing.T, l ...string) []api.Prefix {
	t.Helper()
	var all []api.Prefix
	for _, s := range l {
		all = append(all, px(t, s))
	}
	return all
}

// table is a table by its name and its prefixes as texts.
func table(t *testing.T, name string, l ...string) api.Named {
	t.Helper()
	return api.Named{Name: name, L: pxs(t, l...)}
}

// named is a side that is a table, with all ports.
func named(s string) api.Side { return api.Side{Table: s, Ports: every} }

// pre is a side that is a prefix, with all ports.
func pre(p api.Prefix) api.Side { return api.Side{Prefix: p, Ports: every} }

// ported is a side with these ports.
func ported(s api.Side, low, high int) api.Side {
	s.Ports = api.Ports{Low: low, High: high}
	return s
}

// first is the first address of a prefix, whatever its other bits.
func first(p api.Prefix) uint32 {
	n := min(max(p.Len, 0), 32)
	return uint32(uint64(p.Addr) >> (32 - n) << (32 - n))
}

// last is the last address of a prefix, whatever its other bits.
func last(p api.Prefix) uint32 {
	n := min(max(p.Len, 0), 32)
	return uint32(uint64(first(p)) + 1<<(32-n) - 1)
}

// of tells whether an address is one from a prefix's first to its last.
func of(p api.Prefix, a uint32) bool { return first(p) <= a && a <= last(p) }

// tcp is a TCP packet.
func tcp(src uint32, from int, dst uint32, to, flags int) api.Packet {
	return api.Packet{IP: api.IP{Proto: 6, Src: src, Dst: dst}, Src: from, Dst: to, Flags: flags}
}

// plainSide is P15.1's Side in plain words.
func plainSide(s api.Side, tables []api.Named, a uint32, port int) bool {
	in := s.Any
	if !s.Any && s.Table == "" {
		in = of(s.Prefix, a)
	}
	if !s.Any && s.Table != "" {
		for _, t := range tables {
			if t.Name != s.Table {
				continue
			}
			for _, p := range t.L {
				in = in || of(p, a)
			}
			break
		}
	}
	return in && !(port < s.Ports.Low) && !(port > s.Ports.High)
}

// bits is the set bits of a number.
func bits(n int) []int {
	var l []int
	for i := range 64 {
		if uint64(n)&(1<<i) != 0 {
			l = append(l, i)
		}
	}
	return l
}

// both is what two lists have, in the first one's order.
func both(a, b []int) []int {
	var l []int
	for _, n := range a {
		if slices.Contains(b, n) {
			l = append(l, n)
		}
	}
	return l
}

// faults is each of P15.1's words for One that a packet doesn't hold.
func faults(r api.Rule, tables []api.Named, iface string, p api.Packet) []string {
	var l []string
	word := func(held bool, what string) {
		if !held {
			l = append(l, what)
		}
	}
	from, to := p.Src, p.Dst
	if p.IP.Proto != 6 && p.IP.Proto != 17 {
		from, to = 0, 0
	}
	word(len(r.On) == 0 || strings.Compare(r.On, iface) == 0, "on")
	word(r.Proto == 0 || r.Proto == p.IP.Proto, "proto")
	word(plainSide(r.From, tables, p.IP.Src, from), "from")
	word(plainSide(r.To, tables, p.IP.Dst, to), "to")
	word(r.Mask == 0 || slices.Equal(both(bits(p.Flags), bits(r.Mask)), bits(r.Set)), "flags")
	word(r.Type == -1 || r.Type == p.Type, "type")
	return l
}

// plain is P15.2's Last in plain words: all that are One, of which the first
// quick one is it, or else the last.
func plain(l []api.Rule, tables []api.Named, iface string, p api.Packet) int {
	ones := []int{-1}
	for i, r := range l {
		if len(faults(r, tables, iface, p)) == 0 {
			ones = append(ones, i)
		}
	}
	for _, i := range ones[1:] {
		if l[i].Quick {
			return i
		}
	}
	return ones[len(ones)-1]
}

// hold holds what Side tells of texts' addresses, each with ports that are meant
// and that are not.
func hold(t *testing.T, s api.Side, tables []api.Named, want bool, l ...string) {
	t.Helper()
	s = ported(s, 5, 7)
	for _, text := range l {
		for port, in := range map[int]bool{4: false, 5: true, 6: true, 7: true, 8: false} {
			if Side(s, tables, ip(t, text), port) != (want && in) {
				t.Errorf("%+v, %s, %d: %v", s, text, port, !(want && in))
			}
		}
	}
}

// may and not hold what One tells of a packet at x.
func may(t *testing.T, r api.Rule, p api.Packet) {
	t.Helper()
	if !One(r, nil, "x", p) {
		t.Errorf("%+v doesn't mean %+v", r, p)
	}
}

func not(t *testing.T, r api.Rule, p api.Packet) {
	t.Helper()
	if One(r, nil, "x", p) {
		t.Errorf("%+v means %+v", r, p)
	}
}

// parsed is texts as rules.
func parsed(t *testing.T, l ...string) []api.Rule {
	t.Helper()
	var rules []api.Rule
	for _, s := range l {
		r, e := rule.Parse(s)
		if e != api.OK {
			t.Fatal(s)
		}
		rules = append(rules, r)
	}
	return rules
}

// The example of the chapter.
func TestExample(t *testing.T) {
	l := parsed(t, "block from any to any", "pass from any to any")
	if n := Last(l, nil, "x", tcp(1, 2, 3, 4, 5)); n != 1 {
		t.Error(n)
	}
}

// P15.1, Side: Any has each address, whatever else the side says, and whatever
// tables there are.
func TestAny(t *testing.T) {
	tables := []api.Named{table(t, "a"), table(t, "", "1.1.1.1"), {Name: "b"}}
	for _, s := range []api.Side{
		{Any: true},
		{Any: true, Table: "a"},
		{Any: true, Table: "none"},
		{Any: true, Prefix: px(t, "10.0.0.0/8")},
		{Any: true, Prefix: api.Prefix{Addr: most, Len: math.MaxInt}},
		{Any: true, Table: "b", Prefix: px(t, "10.0.0.1")},
	} {
		for _, l := range [][]api.Named{nil, {}, tables} {
			hold(t, s, l, true, "0.0.0.0", "0.0.0.1", "9.255.255.255", "10.0.0.1", "127.255.255.255", "128.0.0.0", "224.0.0.1", "255.255.255.255")
		}
	}
}

// P15.1, Side: each prefix of a table counts, at its first and its last address,
// and none beside them.
func TestTable(t *testing.T) {
	tables := []api.Named{table(t, "a", "10.0.0.0/8", "20.1.0.0/16", "30.1.1.4/30", "40.1.1.1", "50.0.0.0/31", "128.0.0.0/2")}
	hold(t, named("a"), tables, true,
		"10.0.0.0", "10.77.0.1", "10.255.255.255", "20.1.0.0", "20.1.7.7", "20.1.255.255", "30.1.1.4", "30.1.1.5", "30.1.1.7",
		"40.1.1.1", "50.0.0.0", "50.0.0.1", "128.0.0.0", "177.1.1.1", "191.255.255.255")
	hold(t, named("a"), tables, false,
		"0.0.0.0", "9.255.255.255", "11.0.0.0", "20.0.255.255", "20.2.0.0", "30.1.1.3", "30.1.1.8",
		"40.1.1.0", "40.1.1.2", "49.255.255.255", "50.0.0.2", "127.255.255.255", "192.0.0.0", "255.255.255.255")
	hold(t, named("a"), []api.Named{table(t, "a", "0.0.0.0/0")}, true, "0.0.0.0", "127.255.255.255", "128.0.0.0", "255.255.255.255")
}

// P15.1, Side: one prefix that has an address is enough, at each place of a
// table, and none is needed twice.
func TestEachPlaceOfATable(t *testing.T) {
	const n = 9
	for at := range n {
		l := make([]api.Prefix, n)
		for i := range l {
			l[i] = api.Prefix{Addr: uint32(i+1) << 24, Len: 8 + i}
		}
		p := l[at]
		tables := []api.Named{{Name: "x", L: pxs(t, "1.0.0.0")}, {Name: "a", L: l}}
		for _, a := range []uint32{first(p), last(p)} {
			if !Side(named("a"), tables, a, 0) {
				t.Error(at, a)
			}
			l[at] = api.Prefix{Addr: 77 << 24, Len: 8}
			if Side(named("a"), tables, a, 0) {
				t.Error(at, a, "without it")
			}
			l[at] = p
		}
		for _, a := range []uint32{first(p) - 1, last(p) + 1} {
			if Side(named("a"), tables, a, 0) != slices.ContainsFunc(l, func(p api.Prefix) bool { return of(p, a) }) {
				t.Error(at, a, "beside it")
			}
		}
	}
}

// P15.1, Side: of two tables of one name the first counts alone, also where it
// has nothing.
func TestFirstTable(t *testing.T) {
	one, two, three := table(t, "a", "10.0.0.0/8"), table(t, "a", "20.0.0.0/8"), table(t, "a", "0.0.0.0/0")
	hold(t, named("a"), []api.Named{one, two}, true, "10.0.0.0", "10.255.255.255")
	hold(t, named("a"), []api.Named{one, two}, false, "20.0.0.0", "20.255.255.255")
	hold(t, named("a"), []api.Named{two, one}, true, "20.0.0.0", "20.255.255.255")
	hold(t, named("a"), []api.Named{two, one}, false, "10.0.0.0", "10.255.255.255")
	hold(t, named("a"), []api.Named{table(t, "b", "30.0.0.0/8"), one, table(t, "b", "20.0.0.0/8"), two, three}, false, "20.0.0.0", "30.0.0.0")
	for _, empty := range []api.Named{{Name: "a"}, {Name: "a", L: []api.Prefix{}}} {
		hold(t, named("a"), []api.Named{empty, one, three}, false, "0.0.0.0", "10.0.0.0", "255.255.255.255")
		hold(t, named("a"), []api.Named{one, empty}, true, "10.0.0.0")
	}
}

// P15.1, Side: each table by its own name, at each place; what others have does
// not count.
func TestEachTable(t *testing.T) {
	tables := []api.Named{table(t, "a", "10.0.0.0/8"), table(t, "b", "20.0.0.0/8"), table(t, "c", "30.0.0.0/8", "10.1.0.0/16"), table(t, "d")}
	hold(t, named("a"), tables, true, "10.0.0.0", "10.1.0.0", "10.255.255.255")
	hold(t, named("a"), tables, false, "20.0.0.0", "30.0.0.0")
	hold(t, named("b"), tables, true, "20.0.0.0", "20.255.255.255")
	hold(t, named("b"), tables, false, "10.0.0.0", "10.1.0.0", "30.0.0.0")
	hold(t, named("c"), tables, true, "30.0.0.0", "10.1.255.255")
	hold(t, named("c"), tables, false, "20.0.0.0", "10.0.255.255", "10.2.0.0")
	hold(t, named("d"), tables, false, "0.0.0.0", "10.0.0.0", "20.0.0.0", "30.0.0.0")
}

// P15.1, Side: a name of no table has nothing, nor a table without prefixes; the
// side's Prefix doesn't count beside a name.
func TestNoTable(t *testing.T) {
	wide := table(t, "abc", "0.0.0.0/0")
	l := []api.Named{wide, table(t, "", "0.0.0.0/0"), {Name: "e"}, {Name: "f", L: []api.Prefix{}}}
	some := []string{"0.0.0.0", "0.0.0.1", "10.0.0.1", "255.255.255.255"}
	for _, name := range []string{"ab", "abcd", "bc", "b", "ABC", "abc ", " abc", "abc\x00", "\x00", " ", "<abc>", "any", "e", "f", "\xff", strings.Repeat("abc", 1<<18)} {
		hold(t, named(name), nil, false, some...)
		hold(t, named(name), []api.Named{}, false, some...)
		hold(t, named(name), l, false, some...)
		s := named(name)
		s.Prefix = px(t, "10.0.0.1")
		hold(t, s, l, false, some...)
	}
	hold(t, named("abc"), l, true, some...)
}

// P15.1, Side: a table's name may be any text that isn't empty, and an empty one
// is no name: there the Prefix counts, though a table has no name either.
func TestNames(t *testing.T) {
	for _, name := range []string{"a", "A", " ", "\x00", "\xff\xfe", "any", "<a>", "äö", strings.Repeat("long", 1<<18)} {
		l := []api.Named{table(t, name, "10.0.0.0/8")}
		hold(t, named(name), l, true, "10.0.0.0")
		hold(t, named(name), l, false, "11.0.0.0")
	}
	l := []api.Named{table(t, "", "10.0.0.0/8")}
	hold(t, pre(px(t, "20.0.0.0/8")), l, true, "20.0.0.0")
	hold(t, pre(px(t, "20.0.0.0/8")), l, false, "10.0.0.0")
}

// P15.1, Side: a Prefix of each Len, at its first and its last address and beside
// them, as a side's own and as a table's.
func TestPrefix(t *testing.T) {
	for n := range 33 {
		for _, a := range ends {
			p := api.Prefix{Addr: a, Len: n}
			for _, x := range []struct {
				s api.Side
				l []api.Named
			}{{pre(p), nil}, {named("a"), []api.Named{{Name: "a", L: []api.Prefix{p}}}}} {
				if !Side(x.s, x.l, first(p), 0) || !Side(x.s, x.l, last(p), 65535) {
					t.Error(x.s, n, a)
				}
				if n > 0 && (Side(x.s, x.l, first(p)-1, 0) || Side(x.s, x.l, last(p)+1, 0)) {
					t.Error(x.s, n, a, "beside")
				}
			}
		}
	}
	hold(t, pre(px(t, "0.0.0.0/0")), nil, true, "0.0.0.0", "127.255.255.255", "128.0.0.0", "255.255.255.255")
	hold(t, pre(px(t, "128.0.0.0/1")), nil, true, "128.0.0.0", "255.255.255.255")
	hold(t, pre(px(t, "128.0.0.0/1")), nil, false, "0.0.0.0", "127.255.255.255")
	hold(t, pre(px(t, "10.0.0.6/31")), nil, true, "10.0.0.6", "10.0.0.7")
	hold(t, pre(px(t, "10.0.0.6/31")), nil, false, "10.0.0.5", "10.0.0.8")
	hold(t, pre(px(t, "10.0.0.6/32")), nil, true, "10.0.0.6")
	hold(t, pre(px(t, "10.0.0.6/32")), nil, false, "10.0.0.5", "10.0.0.7")
}

// P15.1, W1: Lens that may not be are held, as chapter 3's Has holds them.
func TestWrongLens(t *testing.T) {
	for _, n := range lens {
		for _, a := range ends {
			for _, b := range ends {
				p := api.Prefix{Addr: a, Len: n}
				if Side(pre(p), nil, b, 0) != of(p, b) {
					t.Error(p, b)
				}
				if Side(named("a"), []api.Named{{Name: "a", L: []api.Prefix{p}}}, b, 0) != of(p, b) {
					t.Error(p, b, "of a table")
				}
			}
		}
	}
}

// sides is a side of each kind, with an address that it has, and one that it
// hasn't, if there is such.
func sides(t *testing.T) (l []api.Side, tables []api.Named, in, out []string) {
	t.Helper()
	tables = []api.Named{table(t, "a", "10.0.0.0/8", "20.0.0.0/8")}
	return []api.Side{whole, named("a"), pre(px(t, "20.1.0.0/16"))}, tables, []string{"1.1.1.1", "10.1.1.1", "20.1.1.1"}, []string{"", "11.1.1.1", "20.2.1.1"}
}

// P15.1, Side: ports are meant from Low to High, both too, and none beside them,
// whichever kind of side it is; where the address isn't meant, none is.
func TestPorts(t *testing.T) {
	l, tables, in, out := sides(t)
	numbers := append([]int{0, 1, 4, 5, 6, 7, 8, 79, 80, 81, 255, 256, 1023, 1024, 65534, 65535}, wild...)
	for i, s := range l {
		for _, low := range numbers {
			for _, high := range numbers {
				for _, port := range numbers {
					want := low <= port && port <= high
					s := ported(s, low, high)
					if Side(s, tables, ip(t, in[i]), port) != want {
						t.Fatal(s, port, !want)
					}
					if out[i] != "" && Side(s, tables, ip(t, out[i]), port) {
						t.Fatal(s, port, "of another address")
					}
				}
			}
		}
	}
}

// P15.1, Side: every port, of all, of one, of some, and of Low above High.
func TestEveryPort(t *testing.T) {
	for port := range 65536 {
		if !Side(whole, nil, 0, port) {
			t.Fatal(port)
		}
		if Side(ported(whole, 80, 80), nil, 0, port) != (port == 80) {
			t.Fatal(port, "of one")
		}
		if Side(ported(whole, 1024, 2047), nil, 0, port) != (port/1024 == 1) {
			t.Fatal(port, "of some")
		}
		if Side(ported(whole, port, port), nil, 0, 7) != (port == 7) {
			t.Fatal(port, "of each")
		}
		if Side(ported(whole, 81, 80), nil, 0, port) {
			t.Fatal(port, "of none")
		}
	}
	if !Side(api.Side{Any: true}, nil, 0, 0) || Side(api.Side{Any: true}, nil, 0, 1) {
		t.Error("a zero value's ports are 0 alone")
	}
}

// plains is packets of each kind that means something to a rule.
func plains() []api.Packet {
	const src, dst = 0x0a000001, 0x14000002
	return []api.Packet{
		tcp(src, 1000, dst, 80, 18),
		{IP: api.IP{Proto: 17, Src: src, Dst: dst}, Src: 1000, Dst: 53},
		{IP: api.IP{Proto: 1, Src: src, Dst: dst}, Src: 5, Dst: 5, Type: 8},
		{IP: api.IP{Proto: 1, Src: src, Dst: dst}, Type: 3, Code: 1, Inner: &api.Key{Proto: 6}},
		{IP: api.IP{Proto: 47, Src: src, Dst: dst}},
		{IP: api.IP{Proto: 6, Src: src, Dst: dst, Off: 9}, Class: api.Later},
		{},
	}
}

// P15.1, One: a rule of which nothing is said means each packet at each
// interface.
func TestAllOfThem(t *testing.T) {
	for _, p := range plains() {
		for _, iface := range []string{"", "x", "ext0", " ", "\xff"} {
			if !One(all, nil, iface, p) {
				t.Error(iface, p)
			}
		}
	}
}

// P15.1, One: On is empty, or the interface's own name, byte by byte.
func TestOn(t *testing.T) {
	names := []string{"", "x", "y", "ext", "ext0", "ext1", "xext0", "Ext0", "ext0 ", " ext0", "ext0\x00", "\x00", "any", "\xff", strings.Repeat("x", 1<<20)}
	for _, on := range names {
		for _, iface := range names {
			want := on == "" || on == iface
			for _, p := range plains() {
				if One(with(func(r *api.Rule) { r.On = on }), nil, iface, p) != want {
					t.Errorf("%.9q at %.9q: %v", on, iface, !want)
				}
			}
		}
	}
}

// P15.1, One: Proto is 0, or the packet's, of all protocols and of numbers that
// are none.
func TestProto(t *testing.T) {
	protos := append([]int{256, 256 + 6, 1<<32 + 6, 1<<32 + 17, -250}, wild...)
	for n := range 256 {
		protos = append(protos, n)
	}
	for _, proto := range protos {
		r := with(func(r *api.Rule) { r.Proto = proto })
		for _, n := range protos {
			want := proto == 0 || proto == n
			if One(r, nil, "x", api.Packet{IP: api.IP{Proto: n}}) != want {
				t.Errorf("%d, %d: %v", proto, n, !want)
			}
		}
	}
}

// P15.1, One: both sides are asked, From of the source and its port, To of the
// destination and its port; of TCP and of UDP.
func TestBothSides(t *testing.T) {
	src, dst := px(t, "10.1.0.0/16"), px(t, "20.1.0.0/16")
	r := with(func(r *api.Rule) { r.From, r.To = ported(pre(src), 1000, 1010), ported(pre(dst), 80, 90) })
	for _, proto := range []int{6, 17} {
		for _, a := range []uint32{src.Addr - 1, src.Addr, last(src), last(src) + 1, dst.Addr} {
			for _, b := range []uint32{dst.Addr - 1, dst.Addr, last(dst), last(dst) + 1, src.Addr} {
				for _, from := range []int{0, 80, 999, 1000, 1010, 1011} {
					for _, to := range []int{0, 79, 80, 90, 91, 1000} {
						p := tcp(a, from, b, to, 0)
						p.IP.Proto = proto
						want := of(src, a) && of(dst, b) && from >= 1000 && from <= 1010 && to >= 80 && to <= 90
						if One(r, nil, "x", p) != want {
							t.Errorf("%+v: %v", p, !want)
						}
					}
				}
			}
		}
	}
}

// P15.1, One: each of the two sides by itself, by a prefix, by a table and by a
// port.
func TestOneSide(t *testing.T) {
	p := tcp(ip(t, "10.0.0.1"), 1000, ip(t, "20.0.0.2"), 80, 0)
	tables := []api.Named{table(t, "a", "10.0.0.0/8"), table(t, "b", "20.0.0.0/8"), table(t, "e"), table(t, "a", "0.0.0.0/0"), table(t, "b", "0.0.0.0/0")}
	for i, x := range []struct {
		s        api.Side
		from, to bool
	}{
		{whole, true, true},
		{pre(px(t, "10.0.0.0/8")), true, false},
		{pre(px(t, "20.0.0.0/8")), false, true},
		{pre(px(t, "10.0.0.1")), true, false},
		{pre(px(t, "20.0.0.2")), false, true},
		{pre(px(t, "30.0.0.0/8")), false, false},
		{pre(px(t, "0.0.0.0/0")), true, true},
		{named("a"), true, false},
		{named("b"), false, true},
		{named("e"), false, false},
		{named("none"), false, false},
		{ported(whole, 1000, 1000), true, false},
		{ported(whole, 80, 80), false, true},
		{ported(whole, 80, 1000), true, true},
		{ported(whole, 81, 999), false, false},
		{ported(whole, 0, 0), false, false},
		{ported(named("a"), 80, 80), false, false},
		{ported(named("b"), 80, 80), false, true},
	} {
		from, to := with(func(r *api.Rule) { r.From = x.s }), with(func(r *api.Rule) { r.To = x.s })
		two := with(func(r *api.Rule) { r.From, r.To = x.s, x.s })
		for _, proto := range []int{6, 17} {
			p.IP.Proto = proto
			if One(from, tables, "x", p) != x.from || One(to, tables, "x", p) != x.to || One(two, tables, "x", p) != (x.from && x.to) {
				t.Error(i, proto, One(from, tables, "x", p), One(to, tables, "x", p), One(two, tables, "x", p))
			}
		}
	}
}

// P15.1, One: ports of other protocols than TCP and UDP are 0, whatever a
// packet's Src and Dst say, on either side.
func TestPortsOfOthers(t *testing.T) {
	nought, seven := ported(whole, 0, 0), ported(whole, 7, 7)
	protos := append([]int{256, 256 + 6, 256 + 17, 1<<32 + 6, 1<<32 + 17}, wild...)
	for n := range 256 {
		protos = append(protos, n)
	}
	for _, proto := range protos {
		has := proto == 6 || proto == 17
		for _, port := range append([]int{0, 1, 7, 80, 65535}, wild...) {
			p := api.Packet{IP: api.IP{Proto: proto}, Src: port, Dst: 7}
			if One(with(func(r *api.Rule) { r.From = nought }), nil, "x", p) != (!has || port == 0) {
				t.Error(proto, port, "from 0")
			}
			if One(with(func(r *api.Rule) { r.From = seven }), nil, "x", p) != (has && port == 7) {
				t.Error(proto, port, "from 7")
			}
			p.Src, p.Dst = 7, port
			if One(with(func(r *api.Rule) { r.To = nought }), nil, "x", p) != (!has || port == 0) {
				t.Error(proto, port, "to 0")
			}
			if One(with(func(r *api.Rule) { r.To = seven }), nil, "x", p) != (has && port == 7) {
				t.Error(proto, port, "to 7")
			}
			if One(with(func(r *api.Rule) { r.From = ported(whole, 1, 65535) }), nil, "x", p) != (has && 0 <= port && port <= 65535) {
				t.Error(proto, port, "from 1 on")
			}
		}
	}
}

// P15.1, One: Mask 0 means any flags, whatever Set says.
func TestMaskZero(t *testing.T) {
	for _, set := range append([]int{0, 1, 2, 63}, wild...) {
		for flags := range 64 {
			may(t, with(func(r *api.Rule) { r.Set = set }), tcp(1, 2, 3, 4, flags))
		}
		for _, flags := range wild {
			may(t, with(func(r *api.Rule) { r.Set = set }), tcp(1, 2, 3, 4, flags))
		}
	}
}

// P15.1, One: of the flags in Mask those in Set are there, and no other one;
// flags outside Mask don't count.
func TestFlags(t *testing.T) {
	const f, s, r, p, a, u = 1, 2, 4, 8, 16, 32
	for _, x := range []struct {
		set, mask int
		in, out   []int
	}{
		{s, s | a, []int{s, s | p, s | f | r | p | u}, []int{0, a, s | a, f, p, f | r | p | u, 63}},
		{s, s, []int{s, s | a, 63}, []int{0, a, 63 - s}},
		{0, a, []int{0, s, 63 - a}, []int{a, s | a, 63}},
		{0, s | a | r, []int{0, f, f | p | u}, []int{s, a, r, s | a, f | r, 63}},
		{0, 63, []int{0}, []int{1, 2, 4, 8, 16, 32, 63}},
		{63, 63, []int{63}, []int{0, 62, 61, 59, 55, 47, 31}},
		{s | a, s | a | r | f, []int{s | a, s | a | p | u}, []int{s, a, 0, s | a | r, s | a | f, 63}},
		{u, u, []int{u, 63}, []int{0, 31}},
		{f, f, []int{f, 63}, []int{0, 62}},
	} {
		want := with(func(r *api.Rule) { r.Proto, r.Set, r.Mask = 6, x.set, x.mask })
		for _, flags := range x.in {
			may(t, want, tcp(1, 2, 3, 4, flags))
		}
		for _, flags := range x.out {
			not(t, want, tcp(1, 2, 3, 4, flags))
		}
	}
}

// P15.1, One: every Set, Mask and Flags of six bits, and numbers of more.
func TestEveryFlags(t *testing.T) {
	numbers := append([]int{64, 128, 1<<32 + 2, -64, -62}, wild...)
	for n := range 64 {
		numbers = append(numbers, n)
	}
	for _, mask := range numbers {
		for _, set := range numbers {
			r := with(func(r *api.Rule) { r.Set, r.Mask = set, mask })
			for _, flags := range numbers {
				want := true
				for i := range 64 {
					in := uint64(mask)>>i%2 == 1 && uint64(flags)>>i%2 == 1
					want = want && in == (uint64(set)>>i%2 == 1)
				}
				want = want || mask == 0
				if One(r, nil, "x", tcp(1, 2, 3, 4, flags)) != want {
					t.Fatalf("%d/%d, %d: %v", set, mask, flags, !want)
				}
			}
		}
	}
}

// P15.1, One: flags are asked of whatever packet, as its field has them: only a
// rule that may be says that they are of TCP.
func TestFlagsOfOthers(t *testing.T) {
	syn := with(func(r *api.Rule) { r.Set, r.Mask = 2, 2 })
	none := with(func(r *api.Rule) { r.Mask = 2 })
	for _, proto := range []int{0, 1, 6, 17, 47} {
		p := api.Packet{IP: api.IP{Proto: proto}}
		not(t, syn, p)
		may(t, none, p)
		p.Flags = 2
		may(t, syn, p)
		not(t, none, p)
	}
}

// P15.1, One: Type -1 means any type; each other one itself alone, 0 too.
func TestType(t *testing.T) {
	types := append([]int{256, 256 + 8, 1<<32 + 8, -256 + 8}, wild...)
	for n := range 256 {
		types = append(types, n)
	}
	for _, kind := range types {
		r := with(func(r *api.Rule) { r.Type = kind })
		for _, n := range types {
			want := kind == -1 || kind == n
			if One(r, nil, "x", api.Packet{IP: api.IP{Proto: 1}, Type: n}) != want {
				t.Errorf("%d, %d: %v", kind, n, !want)
			}
		}
	}
}

// P15.1, One: the type is asked of whatever packet, as its field has it: of a
// packet that has none that is 0.
func TestTypeOfOthers(t *testing.T) {
	for _, proto := range []int{0, 1, 6, 17, 47} {
		p := api.Packet{IP: api.IP{Proto: proto}}
		may(t, with(func(r *api.Rule) { r.Type = 0 }), p)
		not(t, with(func(r *api.Rule) { r.Type = 8 }), p)
	}
}

// P15.1, One: all that it asks must hold: one thing that doesn't is enough,
// whichever it is, and two are too.
func TestOneBrokenIsEnough(t *testing.T) {
	r := api.Rule{
		On: "x", Proto: 6, From: ported(pre(px(t, "10.0.0.0/8")), 1000, 1000), To: ported(named("a"), 80, 80),
		Set: 2, Mask: 18, Type: 0,
	}
	tables := []api.Named{table(t, "a", "20.0.0.0/8")}
	breaks := []func(*api.Rule){
		func(r *api.Rule) { r.On = "y" },
		func(r *api.Rule) { r.Proto = 17 },
		func(r *api.Rule) { r.From.Prefix = px(t, "11.0.0.0/8") },
		func(r *api.Rule) { r.From.Ports = api.Ports{Low: 1001, High: 65535} },
		func(r *api.Rule) { r.To.Table = "b" },
		func(r *api.Rule) { r.To.Ports = api.Ports{Low: 0, High: 79} },
		func(r *api.Rule) { r.Set = 18 },
		func(r *api.Rule) { r.Type = 8 },
	}
	p := tcp(ip(t, "10.0.0.1"), 1000, ip(t, "20.0.0.2"), 80, 2)
	if !One(r, tables, "x", p) {
		t.Fatal("none is broken")
	}
	for i, one := range breaks {
		for j, two := range breaks {
			if One(but(but(r, one), two), tables, "x", p) {
				t.Error(i, j)
			}
		}
	}
}

// P15.1, One: it asks nothing else of a rule or of a packet.
func TestNothingElse(t *testing.T) {
	r := with(func(r *api.Rule) {
		r.From, r.To = ported(pre(px(t, "10.0.0.0/8")), 1000, 1000), ported(pre(px(t, "20.0.0.0/8")), 80, 80)
		r.Set, r.Mask, r.Type = 2, 18, 0
	})
	p := tcp(ip(t, "10.0.0.1"), 1000, ip(t, "20.0.0.2"), 80, 2)
	wrong := p
	wrong.IP.Src++
	wrong.IP.Src += 1 << 24
	for i, change := range []func(*api.Rule, *api.Packet){
		func(r *api.Rule, p *api.Packet) { r.Pass = false },
		func(r *api.Rule, p *api.Packet) { r.Pass, r.Return = false, true },
		func(r *api.Rule, p *api.Packet) { r.Quick = true },
		func(r *api.Rule, p *api.Packet) { r.Keep = true },
		func(r *api.Rule, p *api.Packet) { r.RouteTo = api.Pin{On: true, Iface: "y", Gate: 7} },
		func(r *api.Rule, p *api.Packet) { r.ReplyTo = api.Pin{On: true, Iface: "y", Gate: 7} },
		func(r *api.Rule, p *api.Packet) { r.Table = 3 },
		func(r *api.Rule, p *api.Packet) { p.Class, p.IP.MF = api.First, true },
		func(r *api.Rule, p *api.Packet) { p.Class, p.IP.Off = api.Later, 9 },
		func(r *api.Rule, p *api.Packet) { p.Class = 99 },
		func(r *api.Rule, p *api.Packet) { p.Code = 7 },
		func(r *api.Rule, p *api.Packet) { p.Inner = &api.Key{Proto: 17, Src: 1, Dst: 2, A: 3, B: 4} },
		func(r *api.Rule, p *api.Packet) { p.IP.TOS, p.IP.ID, p.IP.DF, p.IP.TTL = 255, 65535, true, 0 },
		func(r *api.Rule, p *api.Packet) { p.IP.Options, p.IP.Data = make([]byte, 8), make([]byte, 99) },
	} {
		s, q, w := r, p, wrong
		change(&s, &q)
		change(&s, &w)
		may(t, s, q)
		not(t, s, w)
		if n := Last([]api.Rule{s}, nil, "x", q); n != 0 {
			t.Error(i, n)
		}
		if n := Last([]api.Rule{s}, nil, "x", w); n != -1 {
			t.Error(i, n)
		}
	}
}

// yes and no are rules that mean a packet of TCP, and that don't.
var (
	yes = all
	no  = api.Rule{Pass: true, Proto: 17, From: whole, To: whole, Type: -1}
)

// row is rules by letters: y and n, and quick ones Y and N.
func row(s string) []api.Rule {
	var l []api.Rule
	for _, c := range s {
		r := no
		if c == 'y' || c == 'Y' {
			r = yes
		}
		r.Quick = c < 'a'
		l = append(l, r)
	}
	return l
}

// P15.2: the last one that is One, and a quick one at once; -1, if none is.
func TestLast(t *testing.T) {
	for s, want := range map[string]int{
		"": -1, "n": -1, "N": -1, "nn": -1, "NN": -1, "nNnNn": -1,
		"y": 0, "Y": 0, "yn": 0, "ny": 1, "yy": 1, "nyn": 1, "ynn": 0, "nny": 2, "yny": 2, "yyy": 2, "yyn": 1,
		"Yy": 0, "YY": 0, "Yn": 0, "Yyyy": 0, "yY": 1, "nY": 1, "yYy": 1, "yYY": 1, "nYn": 1, "nnYyy": 2, "yyYnY": 2, "yyyY": 3,
		"Ny": 1, "yN": 0, "yNy": 2, "yNn": 0, "NNyN": 2, "yNNN": 0, "NY": 1, "NYy": 1, "yNYy": 2, "NyNyN": 3, "nNyYnNyY": 3,
	} {
		if n := Last(row(s), nil, "x", tcp(1, 2, 3, 4, 5)); n != want {
			t.Errorf("%s: %d, want %d", s, n, want)
		}
	}
}

// P15.2: each row of up to seven of these rules.
func TestEveryRow(t *testing.T) {
	rows := []string{""}
	for from := 0; len(rows) < 20000; {
		for end := len(rows); from < end; from++ {
			for _, c := range []string{"n", "N", "y", "Y"} {
				rows = append(rows, rows[from]+c)
			}
		}
	}
	for _, s := range rows {
		want := strings.Index(s, "Y")
		if want < 0 {
			want = strings.LastIndex(s, "y")
		}
		if n := Last(row(s), nil, "x", tcp(1, 2, 3, 4, 5)); n != want {
			t.Fatalf("%s: %d, want %d", s, n, want)
		}
	}
}

// P15.2: the one that is One, at each place of a full list and of a long one.
func TestEachPlace(t *testing.T) {
	for _, n := range []int{1, 2, 3, api.MaxRules, api.MaxRules + 1, 300} {
		for at := range n {
			ahead, behind := strings.Repeat("n", at), strings.Repeat("n", n-at-1)
			for s, want := range map[string]int{
				ahead + "y" + behind: at,
				ahead + "Y" + behind: at,
				ahead + "N" + behind: -1,
				strings.ToUpper(ahead) + "y" + strings.ToUpper(behind): at,
				strings.ReplaceAll(ahead, "n", "y") + "y" + behind:     at,
				strings.ReplaceAll(ahead, "n", "y") + "n" + behind:     at - 1,
				ahead + "y" + strings.ReplaceAll(behind, "n", "y"):     n - 1,
				ahead + "Y" + strings.ReplaceAll(behind, "n", "y"):     at,
				ahead + "Y" + strings.ReplaceAll(behind, "n", "Y"):     at,
				strings.ReplaceAll(ahead, "n", "y") + "Y" + behind:     at,
				ahead + "N" + strings.ReplaceAll(behind, "n", "y"):     []int{-1, n - 1}[min(len(behind), 1)],
			} {
				if got := Last(row(s), nil, "x", tcp(1, 2, 3, 4, 5)); got != want {
					t.Fatalf("%d of %d, %s: %d, want %d", at, n, s, got, want)
				}
			}
		}
	}
}

// P15.2: a rule decides, whether it passes or blocks.
func TestPassAndBlock(t *testing.T) {
	p := tcp(ip(t, "10.0.0.1"), 1000, ip(t, "20.0.0.2"), 80, 2)
	tables := []api.Named{table(t, "lan", "10.0.0.0/8"), table(t, "bad", "10.0.0.1")}
	for i, x := range []struct {
		l    []string
		want int
	}{
		{[]string{"block from any to any"}, 0},
		{[]string{"pass from any to any", "block from any to any"}, 1},
		{[]string{"block return quick from any to any", "pass from any to any"}, 0},
		{[]string{"block from any to any", "pass proto tcp from <lan> to any port 80 flags S/SA keep", "pass proto udp from <lan> to any keep"}, 1},
		{[]string{"block from any to any", "pass from <lan> to any", "block quick from <bad> to any", "pass from any to any"}, 2},
		{[]string{"block quick on y from any to any", "block quick from <none> to any", "pass on x from any to 20.0.0.2 route-to y 1.1.1.1 table 2"}, 2},
		{[]string{"pass quick proto tcp from any to any port 81:90", "block from 10.0.0.1 to any", "pass quick proto icmp from any to any type 8"}, 1},
		{[]string{"pass on y from any to any", "pass proto udp from any to any", "pass from 20.0.0.0/8 to any", "pass from any to 10.0.0.0/8", "pass proto tcp from any to any flags -/S", "pass proto icmp from any to any type 0"}, -1},
	} {
		if n := Last(parsed(t, x.l...), tables, "x", p); n != x.want {
			t.Error(i, n)
		}
	}
}

// P15.1, P15.2: interface, tables and packet are handed on as they are: of a list
// with one rule Last is 0 where One is true.
func TestLastAsksOne(t *testing.T) {
	tables := []api.Named{table(t, "a", "10.0.0.0/8"), table(t, "b", "20.0.0.0/8")}
	var told [2]int
	for _, p := range plains() {
		for _, iface := range []string{"", "x", "y"} {
			for _, s := range []string{"pass on x from any to any", "pass from <a> to <b>", "pass from <b> to <a>", "pass from any to any", "block proto icmp from any to any type 8", "block quick proto tcp from any to any port 80 flags S/FS"} {
				l := parsed(t, s)
				want := -1
				if One(l[0], tables, iface, p) {
					want = 0
				}
				if n := Last(l, tables, iface, p); n != want {
					t.Error(s, iface, n)
				}
				told[want+1]++
			}
		}
	}
	if told[0] == 0 || told[1] == 0 {
		t.Error(told)
	}
}

// words are rules of each kind, for long rows.
var words = []string{
	"pass from any to any", "block from any to any", "block quick from any to any",
	"pass on x from any to any", "block on y from any to any", "pass quick on y from any to any",
	"pass from 10.0.0.0/8 to any", "pass from any to 20.0.0.0/8", "block from 10.0.0.1 to 20.0.0.2", "pass quick from 10.0.0.0/31 to 20.0.0.0/30",
	"pass from <a> to any", "pass from any to <b>", "block from <e> to any", "block quick from <a> to <b>", "pass from any to <none>",
	"pass proto tcp from any to any port 80", "pass proto tcp from any port 1:1000 to any", "pass quick proto udp from any to any port 53:80",
	"pass proto tcp from any to any flags S/SA", "block proto tcp from any to any flags -/S", "pass quick proto tcp from any to any flags SA/FSRA",
	"pass proto icmp from any to any", "block proto icmp from any to any type 8", "pass quick proto icmp from any to any type 0", "block proto 47 from any to any",
}

// someSide is a side that means a packet now and then.
func someSide(r *rand.Rand) api.Side {
	s := api.Side{Any: r.Intn(3) == 0, Ports: every}
	if r.Intn(2) == 0 {
		s.Table = []string{"a", "b", "e", "c", "none"}[r.Intn(5)]
	}
	if r.Intn(2) == 0 {
		s.Prefix = api.Prefix{Addr: someAddr(r), Len: []int{0, 1, 7, 8, 24, 30, 31, 32, 33, -1}[r.Intn(10)]}
	}
	if r.Intn(3) == 0 {
		s.Ports = api.Ports{Low: somePort(r), High: somePort(r)}
	}
	return s
}

// someAddr is one of a few addresses that stand beside each other.
func someAddr(r *rand.Rand) uint32 {
	return []uint32{10 << 24, 20 << 24, 0, 128 << 24}[r.Intn(4)] + uint32(r.Intn(4)) + uint32(r.Intn(2))<<8
}

// somePort is one of a few ports, 0 most often.
func somePort(r *rand.Rand) int {
	return []int{0, 0, 0, 1, 53, 79, 80, 81, 1000, 65535}[r.Intn(10)]
}

// someRule is a rule that may not be, now and then.
func someRule(t *testing.T, r *rand.Rand) api.Rule {
	t.Helper()
	if r.Intn(2) == 0 {
		return parsed(t, words[r.Intn(len(words))])[0]
	}
	x := api.Rule{From: someSide(r), To: someSide(r), Type: -1, Quick: r.Intn(3) == 0, Pass: r.Intn(2) == 0}
	x.On = []string{"", "", "x", "y"}[r.Intn(4)]
	x.Proto = []int{0, 0, 0, 1, 6, 17, 47}[r.Intn(7)]
	if r.Intn(4) == 0 {
		x.Mask = r.Intn(64)
		x.Set = r.Intn(64) & x.Mask
	}
	if r.Intn(8) == 0 {
		x.Set = r.Intn(64)
	}
	if r.Intn(6) == 0 {
		x.Type = []int{0, 8, 3}[r.Intn(3)]
	}
	return x
}

// someTables is tables, some of them of one name.
func someTables(r *rand.Rand) []api.Named {
	var tables []api.Named
	for range r.Intn(6) {
		x := api.Named{Name: []string{"a", "a", "b", "b", "e", "c", ""}[r.Intn(7)]}
		for range r.Intn(4) {
			x.L = append(x.L, api.Prefix{Addr: someAddr(r), Len: []int{0, 8, 23, 24, 30, 31, 32, 32}[r.Intn(8)]})
		}
		tables = append(tables, x)
	}
	return tables
}

// somePacket is a packet of any kind.
func somePacket(r *rand.Rand) api.Packet {
	p := api.Packet{IP: api.IP{Proto: []int{6, 6, 17, 1, 47, 0}[r.Intn(6)], Src: someAddr(r), Dst: someAddr(r)}}
	p.Src, p.Dst, p.Flags, p.Type = somePort(r), somePort(r), r.Intn(64), []int{0, 8, 3}[r.Intn(3)]
	if r.Intn(2) == 0 {
		p.IP.Data = []byte{1, 2, 3}
		p.Inner = &api.Key{Proto: r.Intn(20)}
	}
	return p
}

// P15.1 to P15.3: many rules, tables and packets against the words written out
// plainly, and each way in which a rule doesn't mean one has come by itself.
func TestManyOfThem(t *testing.T) {
	r := rand.New(rand.NewSource(15))
	alone, told := map[string]int{}, map[int]int{}
	for range 12000 {
		tables := someTables(r)
		var l []api.Rule
		for range r.Intn(12) {
			l = append(l, someRule(t, r))
		}
		p, iface := somePacket(r), []string{"x", "y", ""}[r.Intn(3)]
		want := plain(l, tables, iface, p)
		if n := Last(l, tables, iface, p); n != want {
			t.Fatalf("%+v, %+v, %s, %+v: %d, want %d", l, tables, iface, p, n, want)
		}
		told[want]++
		for _, x := range l {
			broken := faults(x, tables, iface, p)
			if One(x, tables, iface, p) != (len(broken) == 0) {
				t.Fatalf("%+v, %+v, %s, %+v: %v", x, tables, iface, p, broken)
			}
			if len(broken) < 2 {
				alone[strings.Join(broken, "")]++
			}
			for _, s := range []api.Side{x.From, x.To} {
				for _, port := range []int{0, p.Src, p.Dst} {
					if got := Side(s, tables, p.IP.Src, port); got != plainSide(s, tables, p.IP.Src, port) {
						t.Fatalf("%+v, %+v, %+v, %d: %v", s, tables, p, port, got)
					}
				}
			}
		}
	}
	for _, what := range []string{"", "on", "proto", "from", "to", "flags", "type"} {
		if alone[what] < 100 {
			t.Error(what, alone)
		}
	}
	for n := -1; n < 11; n++ {
		if told[n] < 20 {
			t.Error(n, told)
		}
	}
}

// P15.3: whatever is put behind a quick one that matches changes no answer,
// whether or not others matched ahead of it.
func TestBehindAQuickOne(t *testing.T) {
	r := rand.New(rand.NewSource(153))
	var met [2]int
	for range 6000 {
		tables, p := someTables(r), somePacket(r)
		var l, ahead, behind []api.Rule
		for range r.Intn(6) {
			ahead = append(ahead, someRule(t, r))
		}
		for range 1 + r.Intn(6) {
			behind = append(behind, someRule(t, r))
		}
		quick := someRule(t, r)
		quick.Quick = true
		l = append(append(l, ahead...), quick)
		was := Last(l, tables, "x", p)
		if !One(quick, tables, "x", p) {
			met[0]++
			continue
		}
		met[1]++
		if was < 0 || !l[was].Quick {
			t.Fatalf("%+v, %+v: %d", l, p, was)
		}
		for n := range behind {
			if got := Last(slices.Concat(l, behind[:n+1]), tables, "x", p); got != was {
				t.Fatalf("%+v, %+v, %+v: %d, was %d", l, behind[:n+1], p, got, was)
			}
			if got := Last(slices.Concat(l[:was+1], behind[n:]), tables, "x", p); got != was {
				t.Fatalf("%+v, %+v, %+v: %d, was %d", l[:was+1], behind[n:], p, got, was)
			}
			if got := Last(slices.Concat([]api.Rule{quick}, behind[n:], l), tables, "x", p); got != 0 {
				t.Fatalf("%+v: %d", behind, got)
			}
		}
	}
	if met[0] < 500 || met[1] < 500 {
		t.Error(met)
	}
}

// spare is a list with elements in the room behind its end, and all of its room.
func spare[E any](l []E, behind ...E) (list, room []E) {
	room = slices.Concat(l, behind)
	return room[:len(l)], room
}

// copied is tables of their own.
func copied(l []api.Named) []api.Named {
	c := slices.Clone(l)
	for i := range c {
		c[i].L = slices.Clone(c[i].L)
	}
	return c
}

// W6: no call changes what is handed in, not even the room behind a list's end;
// and what stands there counts for nothing.
func TestNothingIsChanged(t *testing.T) {
	r := rand.New(rand.NewSource(6))
	for range 3000 {
		tables, tableRoom := spare(someTables(r), api.Named{Name: "none", L: pxs(t, "0.0.0.0/0")}, api.Named{Name: "a", L: pxs(t, "0.0.0.0/0")})
		var prefixRooms [][]api.Prefix
		for i := range tables {
			var room []api.Prefix
			tables[i].L, room = spare(tables[i].L, px(t, "0.0.0.0/0"))
			prefixRooms = append(prefixRooms, room)
		}
		var made []api.Rule
		for range r.Intn(8) {
			made = append(made, someRule(t, r))
		}
		l, ruleRoom := spare(made, all, with(func(r *api.Rule) { r.Quick = true }))
		p := somePacket(r)
		data := p.IP.Data
		if data != nil {
			p.IP.Data = data[:1]
		}
		tablesWere, prefixesWere, rulesWere := copied(tableRoom), slices.Concat(prefixRooms...), slices.Clone(ruleRoom)
		dataWas, innerWas, packetWas := slices.Clone(data), p.Inner, p
		var keyWas api.Key
		if p.Inner != nil {
			keyWas = *p.Inner
		}

		if n := Last(l, tables, "x", p); n != plain(l, tables, "x", p) {
			t.Fatal(n)
		}
		for _, x := range l {
			One(x, tables, "x", p)
			Side(x.From, tables, p.IP.Src, p.Src)
		}

		if !reflect.DeepEqual(tableRoom, tablesWere) || !slices.Equal(slices.Concat(prefixRooms...), prefixesWere) || !slices.Equal(ruleRoom, rulesWere) {
			t.Fatal("lists")
		}
		if p.Inner != innerWas || p.Inner != nil && *p.Inner != keyWas || !slices.Equal(data, dataWas) || !reflect.DeepEqual(p, packetWas) {
			t.Fatal("the packet")
		}
	}
}

// W2, W7: nothing is kept: the same calls tell the same, whatever was called
// between and whatever became of what was handed in.
func TestNothingIsKept(t *testing.T) {
	tables := []api.Named{table(t, "a", "10.0.0.0/8")}
	l := parsed(t, "block from any to any", "pass quick from <a> to any", "block from any to any")
	p := tcp(ip(t, "10.0.0.1"), 1000, ip(t, "20.0.0.2"), 80, 2)
	for range 3 {
		if n := Last(l, tables, "x", p); n != 1 || !One(l[1], tables, "x", p) || !Side(named("a"), tables, p.IP.Src, 0) {
			t.Error(n)
		}
		tables[0].L[0] = px(t, "30.0.0.0/8")
		if n := Last(l, tables, "x", p); n != 2 || One(l[1], tables, "x", p) || Side(named("a"), tables, p.IP.Src, 0) {
			t.Error(n)
		}
		tables[0].L[0] = px(t, "10.0.0.0/8")
		l[1].Quick = false
		if n := Last(l, tables, "x", p); n != 2 {
			t.Error(n)
		}
		l[1].Quick = true
		if n := Last(l[:1], nil, "y", api.Packet{}); n != 0 {
			t.Error(n)
		}
	}
}

// W5: a nil list and an empty one are the same.
func TestNilAndEmpty(t *testing.T) {
	p := tcp(1, 2, 3, 4, 5)
	if Last(nil, nil, "x", p) != -1 || Last([]api.Rule{}, []api.Named{}, "x", p) != -1 {
		t.Error("no rules")
	}
	for _, tables := range [][]api.Named{nil, {}, {{Name: "a"}}, {{Name: "a", L: []api.Prefix{}}}} {
		if Last([]api.Rule{all, with(func(r *api.Rule) { r.To = named("a") })}, tables, "x", p) != 0 {
			t.Error(tables)
		}
	}
}

// W1: zero values, wrong numbers and long lists end, and none panics.
func TestWrongNumbers(t *testing.T) {
	if !One(api.Rule{}, nil, "", api.Packet{}) || One(api.Rule{}, nil, "", api.Packet{Type: 1}) || !Side(api.Side{}, nil, most, 0) {
		t.Error("zero values")
	}
	for _, a := range wild {
		for _, b := range wild {
			r := api.Rule{Proto: a, Type: b, Set: a, Mask: b, Table: a, From: ported(pre(api.Prefix{Addr: 1, Len: a}), a, b), To: ported(pre(api.Prefix{Addr: 1, Len: b}), b, a)}
			for _, c := range append(wild, 0, 6) {
				p := api.Packet{IP: api.IP{Proto: c, Off: c, TTL: c, Src: 1, Dst: most}, Class: c, Src: c, Dst: c, Flags: c, Type: c, Code: c}
				if want := len(faults(r, nil, "", p)) == 0; One(r, nil, "", p) != want {
					t.Fatalf("%+v, %+v: %v", r, p, !want)
				}
			}
		}
	}
	l := slices.Repeat([]api.Rule{no, with(func(r *api.Rule) { r.From = named("z") })}, 1<<10)
	tables := slices.Repeat([]api.Named{table(t, "a", "0.0.0.0/0")}, 1<<10)
	if n := Last(l, tables, "x", tcp(1, 2, 3, 4, 5)); n != -1 {
		t.Error(n)
	}
	tables = append(tables, api.Named{Name: "z", L: slices.Repeat(pxs(t, "10.0.0.0/8", "0.0.0.1"), 1<<10)})
	if n := Last(l, tables, "x", tcp(1, 2, 3, 4, 5)); n != len(l)-1 {
		t.Error(n)
	}
}
