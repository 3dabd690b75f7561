package addr

import (
	"math"
	"math/rand"
	"strconv"
	"strings"
	"testing"

	"castellan/api"
)

// lens are Lens that may be, and such that may not.
var lens = []int{math.MinInt, math.MinInt32, -33, -32, -2, -1, 0, 1, 2, 7, 8, 9, 15, 16, 17, 23, 24, 25, 30, 31, 32, 33, 34, 63, 64, 65, 256, 288, 1 << 32, 1<<32 + 8, math.MaxInt32, math.MaxInt}

// ends are addresses at which a part, a half or all of them ends.
var ends = []uint32{0, 1, 255, 256, 257, 65535, 65536, 1<<24 - 1, 1 << 24, 0x0a010203, 0x0affffff, 0x0b000000, 0x7fffffff, 0x80000000, 0xaaaaaaaa, 0xdfffffff, 0xe0000000, 0xe0000001, 0xefffffff, 0xf0000000, 0xfffffffe, 0xffffffff}

// held is P3.2's "held within 0 and 32", by plain choices.
func held(n int) int {
	if n < 0 {
		return 0
	}
	if n > 32 {
		return 32
	}
	return n
}

// bit is an address's i-th bit from the front.
func bit(a uint32, i int) bool { return a&(1<<31>>i) != 0 }

// build is the address whose i-th bit from the front is what of tells.
func build(of func(i int) bool) uint32 {
	var a uint32
	for i := range 32 {
		a *= 2
		if of(i) {
			a++
		}
	}
	return a
}

// some is one of the ends, or any address.
func some(r *rand.Rand) uint32 {
	if r.Intn(3) == 0 {
		return ends[r.Intn(len(ends))]
	}
	return r.Uint32()
}

// prefix is a prefix by its two parts.
func prefix(a uint32, n int) api.Prefix { return api.Prefix{Addr: a, Len: n} }

// P3.1: texts that are addresses.
func TestParse(t *testing.T) {
	for _, x := range []struct {
		s    string
		want uint32
	}{
		{"0.0.0.0", 0},
		{"0.0.0.1", 1},
		{"0.0.1.0", 1 << 8},
		{"0.1.0.0", 1 << 16},
		{"1.0.0.0", 1 << 24},
		{"1.2.3.4", 0x01020304},
		{"10.20.30.40", 0x0a141e28},
		{"100.101.199.200", 0x6465c7c8},
		{"192.168.0.1", 0xc0a80001},
		{"127.128.254.255", 0x7f80feff},
		{"255.255.255.255", 0xffffffff},
		{"255.0.0.0", 0xff000000},
		{"0.0.0.255", 0x000000ff},
	} {
		if a, e := Parse(x.s); a != x.want || e != api.OK {
			t.Errorf("%q: %#x, %v", x.s, a, e)
		}
	}
}

// noAddresses are texts that are no address, for Parse and for what stands ahead of a slash.
var noAddresses = []string{
	"", ".", "..", "...", "....", "1", "12", "1.2", "1.2.3", "1.2.3.", "1.2.3.4.", "1.2.3.4.5", "1.2.3.4..", ".1.2.3", ".1.2.3.4", "1..2.3", "1..2.3.4", "1.2..4", "1.2.3..4", "...1", "1...",
	"256.2.3.4", "1.256.3.4", "1.2.256.4", "1.2.3.256", "1.2.3.257", "1.2.3.260", "1.2.3.299", "1.2.3.300", "1.2.3.999", "1.2.3.1000", "1.2.3.2555", "1.2.3.65536", "1.2.3.4294967296", "1.2.3.4294967300", "1.2.3.18446744073709551616", "1.2.3.18446744073709551620", "16909060", "4294967297.0.0.0",
	"00.2.3.4", "01.2.3.4", "1.02.3.4", "1.2.03.4", "1.2.3.04", "1.2.3.00", "1.2.3.000", "1.2.3.010", "1.2.3.001", "0.0.0.00", "1.2.3.0255",
	"+1.2.3.4", "-1.2.3.4", "1.2.3.+4", "1.2.3.-4", "1.2.3.-0", "1.2.3.+0", "-0.0.0.0", "1.+2.3.4", "1.2.-3.4",
	" 1.2.3.4", "1.2.3.4 ", "1 .2.3.4", "1. 2.3.4", "1.2.3. 4", "1.2 .3.4", "1.2.3.4\n", "1.2.3.4\t", "\t1.2.3.4", "1.2.3.4\r", "1.2.3.4\x00", "\x001.2.3.4", "1.2.3.1 2", " ",
	"a.b.c.d", "1.2.3.a", "1.2.3.4a", "a1.2.3.4", "1.2.3.4b", "1.2.3.0x4", "0x1.2.3.4", "1.2.3.1_0", "1.2.3.1e1", "1.2.3.f", "1.2.3.4;", "1.2.3.4:80", "1.2.3.4#", "1.2.3.4,", "1,2,3,4", "1:2:3:4", "1.2.3/4", "1.2.3,4", "1.2.3.:", "1.2.3./", "1.2.3.1/", "1.2.3.1:", "::1", "::ffff:1.2.3.4", "*", "any",
	"1.2.3.\u0664", "\uff11.2.3.4", "1\uff0e2.3.4", "1.2.3.4\u00a0", "1.2.3.\xff", "\xff\xfe", "1.2.3.4\xc0", "1.2.3.\xb4",
}

// P3.1: wrong texts: ErrForm, and 0.
func TestParseWrong(t *testing.T) {
	for _, s := range append([]string{"1.2.3.4/", "1.2.3.4/8", "1.2.3.4/32", "/", "/8"}, noAddresses...) {
		if a, e := Parse(s); a != 0 || e != api.ErrForm {
			t.Errorf("%q: %#x, %v", s, a, e)
		}
	}
}

// P3.1: at each of the four places every number of up to four digits.
func TestParseOfEveryNumber(t *testing.T) {
	for place := range 4 {
		for n := range 3000 {
			row := []string{"9", "9", "9", "9"}
			row[place] = strconv.Itoa(n)
			s := strings.Join(row, ".")
			shift := 24 - 8*place
			want, e := uint32(0x09090909)&^(255<<shift)|uint32(n)<<shift, api.OK
			if n > 255 {
				want, e = 0, api.ErrForm
			}
			if a, got := Parse(s); a != want || got != e {
				t.Fatalf("%q: %#x, %v", s, a, got)
			}
		}
	}
}

// P3.1: noughts ahead, of every number at every place.
func TestParseOfNoughtsAhead(t *testing.T) {
	for place := range 4 {
		for n := range 256 {
			for _, ahead := range []string{"0", "00", "000"} {
				row := []string{"9", "9", "9", "9"}
				row[place] = ahead + strconv.Itoa(n)
				s := strings.Join(row, ".")
				if a, e := Parse(s); a != 0 || e != api.ErrForm {
					t.Fatalf("%q: %#x, %v", s, a, e)
				}
			}
		}
	}
}

// P3.1: any one byte, put ahead of, into, behind or in place of a text's bytes,
// makes an address of it only if plain words say so.
func TestParseOfEveryByte(t *testing.T) {
	for _, s := range []string{"1.2.3.4", "10.20.30.40", "0.0.0.0", "255.255.255.255", "1.2.3", "1.2.3.4.5"} {
		for c := range 256 {
			for at := range len(s) + 1 {
				put := s[:at] + string([]byte{byte(c)}) + s[at:]
				same(t, put)
				if at < len(s) {
					same(t, s[:at]+string([]byte{byte(c)})+s[at+1:])
				}
			}
		}
	}
}

// same holds Parse against a plain reading: four parts, each one of the 256 texts.
func same(t *testing.T, s string) {
	t.Helper()
	var want uint32
	e := api.OK
	row := strings.Split(s, ".")
	if len(row) != 4 {
		row, e = nil, api.ErrForm
	}
	for _, text := range row {
		n := -1
		for k := range 256 {
			if text == strconv.Itoa(k) {
				n = k
			}
		}
		if n < 0 {
			e = api.ErrForm
		}
		want = want*256 + uint32(max(n, 0))
	}
	if e != api.OK {
		want = 0
	}
	if a, got := Parse(s); a != want || got != e {
		t.Fatalf("%q: %#x, %v, want %#x, %v", s, a, got, want, e)
	}
}

// W1: long texts end, and are none.
func TestParseOfLongTexts(t *testing.T) {
	const n = 1 << 20
	for _, s := range []string{
		strings.Repeat("1", n), strings.Repeat("0", n), strings.Repeat(".", n), strings.Repeat("1.", n), strings.Repeat("\xff", n), strings.Repeat("/", n),
		"1.2.3." + strings.Repeat("4", n), "1.2.3." + strings.Repeat("0", n), "1.2.3.4" + strings.Repeat(" ", n), strings.Repeat("0", n) + "1.2.3.4", "1.2.3.4" + strings.Repeat(".5", n), strings.Repeat("10", n/2) + ".2.3.4",
	} {
		if a, e := Parse(s); a != 0 || e != api.ErrForm {
			t.Errorf("%.20q...: %#x, %v", s, a, e)
		}
		for _, p := range []string{s, s + "/8", "1.2.3.4/" + s} {
			if got, e := ParsePrefix(p); got != (api.Prefix{}) || e != api.ErrForm {
				t.Errorf("%.20q...: %v, %v", p, got, e)
			}
		}
	}
}

// P3.1: addresses as texts.
func TestPrint(t *testing.T) {
	for _, x := range []struct {
		a    uint32
		want string
	}{
		{0, "0.0.0.0"},
		{1, "0.0.0.1"},
		{0x01020304, "1.2.3.4"},
		{0x0a141e28, "10.20.30.40"},
		{0xc0a80001, "192.168.0.1"},
		{0x00ff00ff, "0.255.0.255"},
		{0xff00ff00, "255.0.255.0"},
		{0x6465c7c8, "100.101.199.200"},
		{0x80000000, "128.0.0.0"},
		{0x7fffffff, "127.255.255.255"},
		{0xffffffff, "255.255.255.255"},
	} {
		if got := Print(x.a); got != x.want {
			t.Errorf("%#x: %q, want %q", x.a, got, x.want)
		}
	}
}

// P3.1: at each of the four places every number.
func TestPrintOfEveryNumber(t *testing.T) {
	for place := range 4 {
		for n := range 256 {
			row := []string{"7", "7", "7", "7"}
			row[place] = strconv.Itoa(n)
			shift := 24 - 8*place
			a := uint32(0x07070707)&^(255<<shift) | uint32(n)<<shift
			if got, want := Print(a), strings.Join(row, "."); got != want {
				t.Fatalf("%#x: %q, want %q", a, got, want)
			}
		}
	}
}

// P3.3: Parse of Print is it.
func TestParseOfPrint(t *testing.T) {
	check := func(a uint32) {
		if got, e := Parse(Print(a)); got != a || e != api.OK {
			t.Fatalf("%#x: %q: %#x, %v", a, Print(a), got, e)
		}
	}
	for _, a := range ends {
		check(a)
	}
	for n := range 65536 {
		check(uint32(n))
		check(uint32(n) << 16)
		check(uint32(n) << 8)
	}
	r := rand.New(rand.NewSource(1))
	for range 100000 {
		check(r.Uint32())
	}
}

// P3.1, P3.3: the same of prefixes, whatever stands behind their Len.
func TestParsePrefixOfPrintPrefix(t *testing.T) {
	r := rand.New(rand.NewSource(2))
	for range 20000 {
		p := prefix(some(r), r.Intn(33))
		if got, e := ParsePrefix(PrintPrefix(p)); got != p || e != api.OK {
			t.Fatalf("%v: %q: %v, %v", p, PrintPrefix(p), got, e)
		}
	}
}

// P3.1: prefixes as they stand, with every number, and without one.
func TestParsePrefix(t *testing.T) {
	for _, x := range []struct {
		s    string
		want api.Prefix
	}{
		{"10.0.0.0/8", prefix(0x0a000000, 8)},
		{"10.1.2.3/8", prefix(0x0a010203, 8)},
		{"10.1.2.3", prefix(0x0a010203, 32)},
		{"0.0.0.0", prefix(0, 32)},
		{"0.0.0.0/0", prefix(0, 0)},
		{"255.255.255.255/0", prefix(0xffffffff, 0)},
		{"255.255.255.255", prefix(0xffffffff, 32)},
		{"1.2.3.4/1", prefix(0x01020304, 1)},
		{"1.2.3.4/10", prefix(0x01020304, 10)},
		{"1.2.3.4/32", prefix(0x01020304, 32)},
	} {
		if p, e := ParsePrefix(x.s); p != x.want || e != api.OK {
			t.Errorf("%q: %v, %v", x.s, p, e)
		}
	}
	for n := range 33 {
		s := "171.205.239.255/" + strconv.Itoa(n)
		if p, e := ParsePrefix(s); p != prefix(0xabcdefff, n) || e != api.OK {
			t.Errorf("%q: %v, %v", s, p, e)
		}
	}
}

// P3.1: wrong prefixes: ErrForm, and nothing of the part that could be read.
func TestParsePrefixWrong(t *testing.T) {
	wrong := []string{"/", "/8", "1.2.3.4/", "1.2.3.4//", "1.2.3.4//8", "1.2.3.4/8/", "1.2.3.4/8/8", "/1.2.3.4", "1.2.3.4/1.2.3.4", "1.2.3.4/255.0.0.0"}
	for _, behind := range []string{"33", "34", "39", "40", "64", "99", "100", "255", "320", "256", "288", "4294967296", "4294967304", "18446744073709551616", "18446744073709551624", "00", "08", "032", "01", "000", "-0", "-1", "-8", "+0", "+8", " 8", "8 ", " ", "\t8", "8\n", "8\x00", "3 2", "a", "8a", "a8", "0x8", "1_0", "1e1", "8.", ".8", "8.0", "8,", ":", "8:", "2:", "2/", "\u0668", "\xff", "8\xff"} {
		wrong = append(wrong, "1.2.3.4/"+behind)
	}
	for _, s := range noAddresses {
		if !strings.Contains(s, "/") {
			wrong = append(wrong, s, s+"/", s+"/0", s+"/8", s+"/32", s+"/33")
		}
	}
	for _, s := range wrong {
		if p, e := ParsePrefix(s); p != (api.Prefix{}) || e != api.ErrForm {
			t.Errorf("%q: %v, %v", s, p, e)
		}
	}
	for n := 33; n < 3000; n++ {
		s := "1.2.3.4/" + strconv.Itoa(n)
		if p, e := ParsePrefix(s); p != (api.Prefix{}) || e != api.ErrForm {
			t.Errorf("%q: %v, %v", s, p, e)
		}
	}
}

// P3.1: Print, a slash, the number; nothing of a Len that may not be.
func TestPrintPrefix(t *testing.T) {
	for _, a := range ends {
		for _, n := range lens {
			want := ""
			if n >= 0 && n <= 32 {
				want = Print(a) + "/" + strconv.Itoa(n)
			}
			if got := PrintPrefix(prefix(a, n)); got != want {
				t.Errorf("%#x, %d: %q, want %q", a, n, got, want)
			}
		}
	}
	for _, x := range []struct {
		p    api.Prefix
		want string
	}{
		{prefix(0x0a010203, 8), "10.1.2.3/8"},
		{prefix(0x0a010203, 32), "10.1.2.3/32"},
		{prefix(0, 0), "0.0.0.0/0"},
		{prefix(0xffffffff, 0), "255.255.255.255/0"},
		{prefix(1, 33), ""},
		{prefix(1, -1), ""},
	} {
		if got := PrintPrefix(x.p); got != x.want {
			t.Errorf("%v: %q, want %q", x.p, got, x.want)
		}
	}
}

// P3.2: the first n bits, n held within 0 and 32.
func TestMask(t *testing.T) {
	for _, x := range []struct {
		n    int
		want uint32
	}{
		{math.MinInt, 0}, {-1, 0}, {0, 0}, {1, 0x80000000}, {2, 0xc0000000}, {8, 0xff000000}, {15, 0xfffe0000}, {16, 0xffff0000}, {24, 0xffffff00}, {31, 0xfffffffe}, {32, 0xffffffff}, {33, 0xffffffff}, {64, 0xffffffff}, {math.MaxInt, 0xffffffff},
	} {
		if got := Mask(x.n); got != x.want {
			t.Errorf("%d: %#x, want %#x", x.n, got, x.want)
		}
	}
	check := func(n int) {
		want := build(func(i int) bool { return i < n })
		if got := Mask(n); got != want {
			t.Errorf("%d: %#x, want %#x", n, got, want)
		}
	}
	for n := -300; n <= 300; n++ {
		check(n)
	}
	for _, n := range lens {
		check(n)
	}
}

// P3.2: the chapter's example, and what stands beside it.
func TestWide(t *testing.T) {
	for _, x := range []struct{ p, want string }{
		{"10.1.0.0/16", "10.1.255.255"},
		{"10.1.2.3/16", "10.1.255.255"},
		{"10.1.2.3/32", "10.1.2.3"},
		{"10.1.2.2/31", "10.1.2.3"},
		{"10.1.2.3/31", "10.1.2.3"},
		{"10.1.2.3/24", "10.1.2.255"},
		{"10.1.2.3/8", "10.255.255.255"},
		{"10.1.2.3/1", "127.255.255.255"},
		{"128.0.0.0/1", "255.255.255.255"},
		{"10.1.2.3/0", "255.255.255.255"},
		{"0.0.0.0/0", "255.255.255.255"},
		{"0.0.0.0/32", "0.0.0.0"},
	} {
		p, e := ParsePrefix(x.p)
		if got := Print(Wide(p)); got != x.want || e != api.OK {
			t.Errorf("%s: %s, want %s", x.p, got, x.want)
		}
	}
}

// P3.2: Norm, Is and Wide, bit by bit, at every Len.
func TestOfOnePrefix(t *testing.T) {
	r := rand.New(rand.NewSource(3))
	check := func(a uint32, n int) {
		p := prefix(a, n)
		norm := prefix(build(func(i int) bool { return i < held(n) && bit(a, i) }), held(n))
		if got := Norm(p); got != norm {
			t.Fatalf("Norm of %#x, %d: %v, want %v", a, n, got, norm)
		}
		if got, want := Is(p), norm.Addr == a && norm.Len == n; got != want {
			t.Fatalf("Is of %#x, %d: %v", a, n, got)
		}
		if !Is(norm) || Norm(norm) != norm {
			t.Fatalf("Norm of %#x, %d is not Norm of itself", a, n)
		}
		if got, want := Wide(p), build(func(i int) bool { return i >= held(n) || bit(a, i) }); got != want {
			t.Fatalf("Wide of %#x, %d: %#x, want %#x", a, n, got, want)
		}
	}
	for _, n := range lens {
		for _, a := range ends {
			check(a, n)
		}
	}
	for n := -3; n <= 36; n++ {
		for range 100 {
			a := r.Uint32()
			check(a, n)
			check(a&Mask(n), n)
			check(a|^Mask(n), n)
		}
	}
}

// P3.2: Is, where a Len that may not be, or a single other bit, makes it none.
func TestIs(t *testing.T) {
	for _, x := range []struct {
		p    api.Prefix
		want bool
	}{
		{prefix(0, 0), true},
		{prefix(1, 0), false},
		{prefix(1<<31, 0), false},
		{prefix(1<<31, 1), true},
		{prefix(1<<30, 1), false},
		{prefix(0x0a000000, 8), true},
		{prefix(0x0a000000, 7), true},
		{prefix(0x0a000000, 6), false},
		{prefix(0x0a800000, 8), false},
		{prefix(0x0a000001, 8), false},
		{prefix(0x0a000001, 32), true},
		{prefix(0x0a000001, 31), false},
		{prefix(0xffffffff, 32), true},
		{prefix(0xffffffff, 33), false},
		{prefix(0, 33), false},
		{prefix(0, -1), false},
		{prefix(0, math.MinInt), false},
		{prefix(0, math.MaxInt), false},
		{prefix(0, 1<<32), false},
	} {
		if got := Is(x.p); got != x.want {
			t.Errorf("%v: %v", x.p, got)
		}
	}
}

// P3.2: Has, bit by bit, with the address itself, one bit turned, and others.
func TestHas(t *testing.T) {
	for _, x := range []struct {
		p    string
		a    string
		want bool
	}{
		{"10.0.0.0/8", "10.0.0.0", true},
		{"10.0.0.0/8", "10.255.255.255", true},
		{"10.0.0.0/8", "9.255.255.255", false},
		{"10.0.0.0/8", "11.0.0.0", false},
		{"10.1.2.3/8", "10.200.0.1", true},
		{"10.1.2.3/32", "10.1.2.3", true},
		{"10.1.2.3/32", "10.1.2.2", false},
		{"10.1.2.3", "138.1.2.3", false},
		{"10.1.2.3/0", "200.1.2.3", true},
		{"0.0.0.0/1", "127.255.255.255", true},
		{"0.0.0.0/1", "128.0.0.0", false},
	} {
		p, _ := ParsePrefix(x.p)
		a, _ := Parse(x.a)
		if got := Has(p, a); got != x.want {
			t.Errorf("%s, %s: %v", x.p, x.a, got)
		}
	}
	r := rand.New(rand.NewSource(4))
	check := func(p api.Prefix, a uint32) {
		want := true
		for i := range held(p.Len) {
			want = want && bit(p.Addr, i) == bit(a, i)
		}
		if got := Has(p, a); got != want {
			t.Fatalf("%v, %#x: %v", p, a, got)
		}
	}
	for _, n := range lens {
		for _, a := range ends {
			for _, b := range ends {
				check(prefix(a, n), b)
			}
		}
	}
	for n := -2; n <= 35; n++ {
		for i := range 32 {
			a := r.Uint32()
			check(prefix(a, n), a^1<<i)
			check(prefix(a, n), a)
			check(prefix(a, n), r.Uint32())
		}
	}
}

// P3.2: Covers, as told, with Lens that are held.
func TestCovers(t *testing.T) {
	for _, x := range []struct {
		p, q api.Prefix
		want bool
	}{
		{prefix(0x0a000000, 8), prefix(0x0a000000, 8), true},
		{prefix(0x0a000000, 8), prefix(0x0a000000, 9), true},
		{prefix(0x0a000000, 9), prefix(0x0a000000, 8), false},
		{prefix(0x0a000000, 8), prefix(0x0a010000, 16), true},
		{prefix(0x0a010000, 16), prefix(0x0a000000, 8), false},
		{prefix(0x0a000000, 8), prefix(0x0b000000, 9), false},
		{prefix(0x0a000000, 8), prefix(0x0b000000, 8), false},
		{prefix(0, 0), prefix(0xffffffff, 32), true},
		{prefix(0, 0), prefix(0, 0), true},
		{prefix(7, 0), prefix(9, 0), true},
		{prefix(0xffffffff, 32), prefix(0, 0), false},
		{prefix(0x0a010203, 8), prefix(0x0a040506, 8), true},
		{prefix(1, 77), prefix(1, 32), true},
		{prefix(1, 33), prefix(1, 32), true},
		{prefix(1, math.MaxInt), prefix(1, 33), true},
		{prefix(1, math.MaxInt), prefix(2, 33), false},
		{prefix(1, 77), prefix(1, 31), false},
		{prefix(1, 31), prefix(1, 77), true},
		{prefix(5, -1), prefix(9, -2), true},
		{prefix(5, 0), prefix(9, -2), true},
		{prefix(5, 0), prefix(9, math.MinInt), true},
		{prefix(5, math.MinInt), prefix(9, math.MinInt), true},
		{prefix(5, 1), prefix(5, -2), false},
		{prefix(5, -7), prefix(9, 1), true},
	} {
		if got := Covers(x.p, x.q); got != x.want {
			t.Errorf("%v, %v: %v", x.p, x.q, got)
		}
	}
	r := rand.New(rand.NewSource(5))
	for range 50000 {
		p := prefix(some(r), lens[r.Intn(len(lens))])
		q := prefix(some(r), lens[r.Intn(len(lens))])
		if r.Intn(2) == 0 {
			q.Addr = p.Addr ^ 1<<r.Intn(32)
		}
		want := held(p.Len) <= held(q.Len)
		for i := range held(p.Len) {
			want = want && bit(p.Addr, i) == bit(q.Addr, i)
		}
		if got := Covers(p, q); got != want {
			t.Fatalf("%v, %v: %v", p, q, got)
		}
	}
}

// P3.2: what a prefix covers it has from the first to the last, and no more.
func TestCoversIsAllOfIt(t *testing.T) {
	r := rand.New(rand.NewSource(6))
	for range 20000 {
		p, q := Norm(prefix(some(r), r.Intn(33))), Norm(prefix(some(r), r.Intn(33)))
		want := p.Addr <= q.Addr && Wide(q) <= Wide(p)
		if got := Covers(p, q); got != want {
			t.Fatalf("%v, %v: %v", p, q, got)
		}
	}
}

// P3.2: Cast, at both ends of what it tells.
func TestCast(t *testing.T) {
	for _, x := range []struct {
		a    string
		want bool
	}{
		{"0.0.0.0", false},
		{"10.1.2.3", false},
		{"127.255.255.255", false},
		{"128.0.0.0", false},
		{"192.168.0.255", false},
		{"223.255.255.255", false},
		{"224.0.0.0", true},
		{"224.0.0.1", true},
		{"231.255.255.255", true},
		{"232.0.0.0", true},
		{"239.255.255.254", true},
		{"239.255.255.255", true},
		{"240.0.0.0", false},
		{"240.0.0.1", false},
		{"254.255.255.255", false},
		{"255.0.0.0", false},
		{"255.255.255.0", false},
		{"255.255.255.254", false},
		{"255.255.255.255", true},
	} {
		a, _ := Parse(x.a)
		if got := Cast(a); got != x.want {
			t.Errorf("%s: %v", x.a, got)
		}
	}
	for n := range uint32(1 << 16) {
		for _, a := range []uint32{n << 16, n<<16 | 0xffff, n<<16 | 0xfffe} {
			want := a >= 224<<24 && a <= 240<<24-1 || a == math.MaxUint32
			if got := Cast(a); got != want {
				t.Fatalf("%#x: %v", a, got)
			}
		}
	}
}

// W2: nothing is kept: the same calls tell the same, whatever was called between.
func TestNothingIsKept(t *testing.T) {
	p := prefix(0x0a010203, 8)
	tell := func() [7]any {
		a, e := Parse("10.1.2.3")
		q, f := ParsePrefix("10.1.2.3/8")
		return [7]any{a, e, q, f, Print(a), PrintPrefix(p), Norm(p)}
	}
	first := tell()
	Parse("1.2.3.x")
	ParsePrefix("1.2.3.4/33")
	PrintPrefix(prefix(1, -1))
	Norm(prefix(1, 99))
	if tell() != first {
		t.Errorf("%v, was %v", tell(), first)
	}
}
