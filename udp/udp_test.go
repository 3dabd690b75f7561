package udp

import (
	"bytes"
	"math"
	"math/rand"
	"slices"
	"testing"

	"castellan/api"
)

const (
	here  = 0x0a0b0c0d
	there = 0xf1e2d3c4
)

// sample is a datagram with a value of its own in every field.
func sample() api.Datagram {
	return api.Datagram{Src: 0x1234, Dst: 0xfedc, Data: []byte{21, 22, 23, 24, 25}}
}

// sampleBytes are sample's from here to there, written out, with a checksum
// that Build has no part in.
func sampleBytes() []byte {
	return summed(here, there, []byte{0x12, 0x34, 0xfe, 0xdc, 0, 13, 0, 0, 21, 22, 23, 24, 25})
}

// plainSum is the checksum of a datagram's bytes, as they stand, by division:
// the total is never 0 here, for the protocol's number is in it, and then what
// is left of it by folding is 1 to 65535.
func plainSum(src, dst uint32, b []byte) int {
	total := int(src/65536) + int(src%65536) + int(dst/65536) + int(dst%65536) + 17 + len(b)
	for i, n := range b {
		if i%2 == 0 {
			total += int(n) * 256
		} else {
			total += int(n)
		}
	}
	return 65535 - ((total-1)%65535 + 1)
}

// summed is b itself with its checksum anew, 65535 instead of 0.
func summed(src, dst uint32, b []byte) []byte {
	b[6], b[7] = 0, 0
	n := plainSum(src, dst, b)
	if n == 0 {
		n = 65535
	}
	b[6], b[7] = byte(n/256), byte(n%256)
	return b
}

// changed is a copy of b with some bytes changed: places and values in turn.
func changed(b []byte, pairs ...int) []byte {
	c := slices.Clone(b)
	for i := 0; i < len(pairs); i += 2 {
		c[pairs[i]] = byte(pairs[i+1])
	}
	return c
}

// long is a copy of b with a length of n.
func long(b []byte, n int) []byte {
	return changed(b, 4, n/256, 5, n%256)
}

// made is a datagram's bytes from here to there, which must be.
func made(t *testing.T, d api.Datagram) []byte {
	t.Helper()
	b, e := Build(here, there, d)
	if e != api.OK {
		t.Fatalf("%+v: %v", d, e)
	}
	return b
}

// equal tells whether two datagrams are one, without Same.
func equal(a, b api.Datagram) bool {
	return a.Src == b.Src && a.Dst == b.Dst && string(a.Data) == string(b.Data)
}

// isZero tells whether a datagram has nothing: the answer beside an error.
func isZero(d api.Datagram) bool {
	return equal(d, api.Datagram{})
}

// plainParse is P6.1's words for Parse, one by one, by division.
func plainParse(b []byte) (api.Datagram, api.Errno) {
	if len(b) < 8 {
		return api.Datagram{}, api.ErrShort
	}
	two := func(at int) int { return int(b[at])*256 + int(b[at+1]) }
	if two(4) < 8 {
		return api.Datagram{}, api.ErrForm
	}
	if two(4) > len(b) {
		return api.Datagram{}, api.ErrShort
	}
	return api.Datagram{Src: two(0), Dst: two(2), Data: slices.Clone(b[8:two(4)])}, api.OK
}

// plainBuild is P6.1's words for Build of a datagram that may be, by division.
func plainBuild(src, dst uint32, d api.Datagram) []byte {
	all := 8 + len(d.Data)
	b := []byte{
		byte(d.Src / 256), byte(d.Src % 256), byte(d.Dst / 256), byte(d.Dst % 256),
		byte(all / 256), byte(all % 256), 0, 0,
	}
	return summed(src, dst, append(b, d.Data...))
}

// checkParse holds Parse against the plain one.
func checkParse(t *testing.T, b []byte) {
	t.Helper()
	want, wantErr := plainParse(b)
	if got, e := Parse(b); e != wantErr || !equal(got, want) {
		t.Fatalf("Parse(% x): %+v, %v, want %+v, %v", b, got, e, want, wantErr)
	}
}

// someBytes are n bytes that hang on r alone.
func someBytes(r *rand.Rand, n int) []byte {
	b := make([]byte, n)
	for i := range b {
		b[i] = byte(r.Intn(256))
	}
	return b
}

// someDatagram is one that Build takes.
func someDatagram(r *rand.Rand) api.Datagram {
	return api.Datagram{Src: r.Intn(65536), Dst: r.Intn(65536), Data: someBytes(r, r.Intn(40))}
}

// P6.1: a datagram is read field by field.
func TestParse(t *testing.T) {
	if got, e := Parse(sampleBytes()); e != api.OK || !equal(got, sample()) {
		t.Errorf("%+v, %v", got, e)
	}
}

// P6.1: each error at its edges, what is just within them, and, where a wrong
// length meets too few bytes, the one that is named first.
func TestParseErrors(t *testing.T) {
	b := sampleBytes()
	for _, x := range []struct {
		name string
		b    []byte
		want api.Errno
	}{
		{"nil", nil, api.ErrShort},
		{"empty", []byte{}, api.ErrShort},
		{"one byte", b[:1], api.ErrShort},
		{"four bytes", b[:4], api.ErrShort},
		{"six bytes", b[:6], api.ErrShort},
		{"7 bytes, a length of none", long(b, 0)[:7], api.ErrShort},
		{"7 bytes, a length of 7", long(b, 7)[:7], api.ErrShort},
		{"7 bytes, a length of 8", long(b, 8)[:7], api.ErrShort},
		{"7 bytes, a length of 13", b[:7], api.ErrShort},
		{"8 bytes, a length of none", long(b, 0)[:8], api.ErrForm},
		{"8 bytes, a length of 1", long(b, 1)[:8], api.ErrForm},
		{"8 bytes, a length of 7", long(b, 7)[:8], api.ErrForm},
		{"8 bytes, a length of 8", long(b, 8)[:8], api.OK},
		{"8 bytes, a length of 9", long(b, 9)[:8], api.ErrShort},
		{"8 bytes, a length of 256", long(b, 256)[:8], api.ErrShort},
		{"8 bytes, a length of 65535", long(b, 65535)[:8], api.ErrShort},
		{"data, a length of none", long(b, 0), api.ErrForm},
		{"data, a length of 7", long(b, 7), api.ErrForm},
		{"data, a length of 8", long(b, 8), api.OK},
		{"data, a length of 9", long(b, 9), api.OK},
		{"data, a length of one fewer", long(b, 12), api.OK},
		{"data, its length", b, api.OK},
		{"data, a length of one more", long(b, 14), api.ErrShort},
		{"data, a length of 256 and its own", long(b, 256+13), api.ErrShort},
		{"data, a length of 256 and 7", long(b, 256+7), api.ErrShort},
		{"one byte missing", b[:12], api.ErrShort},
		{"one byte more", append(slices.Clone(b), 1), api.OK},
		{"65534 bytes, a length of 65535", append(long(b, 65535), make([]byte, 65534-13)...), api.ErrShort},
		{"65535 bytes, a length of 65535", append(long(b, 65535), make([]byte, 65535-13)...), api.OK},
		{"65536 bytes, a length of 65535", append(long(b, 65535), make([]byte, 65536-13)...), api.OK},
		{"65536 bytes, a length of none", append(long(b, 0), make([]byte, 65536-13)...), api.ErrForm},
		{"65544 bytes, a length of 8", append(long(b, 8), make([]byte, 65544-13)...), api.OK},
	} {
		d, e := Parse(x.b)
		if e != x.want || e != api.OK && !isZero(d) {
			t.Errorf("%s: %+v, %v, want %v", x.name, d, e, x.want)
		}
		checkParse(t, x.b)
	}
}

// P6.1: every length that may stand there, in bytes of every size near the edges.
func TestParseEveryLength(t *testing.T) {
	b := someBytes(rand.New(rand.NewSource(1)), 300)
	for n := range 65536 {
		b[4], b[5] = byte(n/256), byte(n%256)
		for _, size := range []int{0, 6, 7, 8, 9, 13, 255, 256, 257, 264, 300} {
			checkParse(t, b[:size])
		}
	}
	for n := range 300 {
		b[4], b[5] = byte(n/256), byte(n%256)
		for size := range len(b) + 1 {
			checkParse(t, b[:size])
		}
	}
}

// P6.1: the data ends at its length, whatever stands behind, and whether that
// is spare room or not.
func TestParseLeavesWhatIsBehind(t *testing.T) {
	r := rand.New(rand.NewSource(2))
	for _, size := range []int{0, 1, 2, 5, 247, 248, 249, 64999, 65000, 65001, 65527} {
		data := someBytes(r, size)
		for _, behind := range []int{0, 1, 2, 8, 70000} {
			b := append(long(sampleBytes(), 8+size)[:8], data...)
			b = append(b, someBytes(r, behind)...)
			want := api.Datagram{Src: 0x1234, Dst: 0xfedc, Data: data}
			if d, e := Parse(b); e != api.OK || !equal(d, want) {
				t.Errorf("%d, %d behind: %d bytes, %v", size, behind, len(d.Data), e)
			}
			if d, e := Parse(b[:8+size]); e != api.OK || !equal(d, want) {
				t.Errorf("%d, %d in spare room: %d bytes, %v", size, behind, len(d.Data), e)
			}
			if d, e := Parse(b[:7+size]); e != api.ErrShort || !isZero(d) {
				t.Errorf("%d, the last in spare room: %d bytes, %v", size, len(d.Data), e)
			}
		}
	}
}

// P6.1: each port is read from its own bytes, the highest first, at both of
// its ends too, and none other.
func TestParsePorts(t *testing.T) {
	for n := range 65536 {
		for _, fill := range []byte{0, 0xff} {
			b := long(bytes.Repeat([]byte{fill}, 8), 8)
			other := int(fill) * 257
			d, e := Parse(changed(b, 0, n/256, 1, n%256))
			if e != api.OK || !equal(d, api.Datagram{Src: n, Dst: other}) {
				t.Fatalf("Src %d: %+v, %v", n, d, e)
			}
			d, e = Parse(changed(b, 2, n/256, 3, n%256))
			if e != api.OK || !equal(d, api.Datagram{Src: other, Dst: n}) {
				t.Fatalf("Dst %d: %+v, %v", n, d, e)
			}
		}
	}
}

// P6.1: whatever the checksum is, none (0) too, it is not looked at, and shows nowhere.
func TestParseEveryChecksum(t *testing.T) {
	b := sampleBytes()
	for n := range 65536 {
		b[6], b[7] = byte(n>>8), byte(n)
		if d, e := Parse(b); e != api.OK || !equal(d, sample()) {
			t.Fatalf("%#x: %+v, %v", n, d, e)
		}
	}
}

// P6.1: every value of every byte.
func TestParseEveryByte(t *testing.T) {
	b := sampleBytes()
	for at := range b {
		for n := range 256 {
			checkParse(t, changed(b, at, n))
		}
	}
}

// P6.1: the bytes of datagrams, written out; the first is the chapter's example.
func TestBuild(t *testing.T) {
	for _, x := range []struct {
		name     string
		src, dst uint32
		d        api.Datagram
		want     []byte
	}{
		{"no data", 0, 0, api.Datagram{}, []byte{0, 0, 0, 0, 0, 8, 0xff, 0xde}},
		{"ports", 0, 0, api.Datagram{Src: 258, Dst: 772}, []byte{1, 2, 3, 4, 0, 8, 0xfb, 0xd8}},
		{"addresses", 0x01020304, 0x10203040, api.Datagram{}, []byte{0, 0, 0, 0, 0, 8, 0xbb, 0x78}},
		{"data of one byte", 0, 0, api.Datagram{Data: []byte{1}}, []byte{0, 0, 0, 0, 0, 9, 0xfe, 0xdc, 1}},
		{"data of two bytes", 0, 0, api.Datagram{Data: []byte{1, 2}}, []byte{0, 0, 0, 0, 0, 10, 0xfe, 0xd8, 1, 2}},
		{"all ones", 0xffffffff, 0xffffffff, api.Datagram{Src: 65535, Dst: 65535, Data: []byte{255, 255}},
			[]byte{255, 255, 255, 255, 0, 10, 0xff, 0xda, 255, 255}},
		{"a checksum of 1", 0, 0, api.Datagram{Src: 65535 - 17 - 8 - 8 - 1}, []byte{0xff, 0xdd, 0, 0, 0, 8, 0, 1}},
		{"65535 instead of 0", 0, 0, api.Datagram{Src: 65535 - 17 - 8 - 8}, []byte{0xff, 0xde, 0, 0, 0, 8, 255, 255}},
		{"a checksum of 65534", 0, 0, api.Datagram{Src: 65535 - 17 - 8 - 8 + 1}, []byte{0xff, 0xdf, 0, 0, 0, 8, 255, 254}},
		{"every field", here, there, sample(), sampleBytes()},
	} {
		if b, e := Build(x.src, x.dst, x.d); e != api.OK || !bytes.Equal(b, x.want) {
			t.Errorf("%s: % x, %v, want % x", x.name, b, e, x.want)
		}
	}
}

// P6.1: the checksum is that of Pseudo and all: of src and dst, each of their
// bits, the protocol and the length too.
func TestBuildChecksum(t *testing.T) {
	for _, d := range []api.Datagram{sample(), {}, {Data: []byte{9}}, {Data: []byte{9, 8}}} {
		base := made(t, d)
		for bit := range 32 {
			for _, ends := range [][2]uint32{{here ^ 1<<bit, there}, {here, there ^ 1<<bit}} {
				b, e := Build(ends[0], ends[1], d)
				if e != api.OK || !bytes.Equal(b, plainBuild(ends[0], ends[1], d)) {
					t.Fatalf("%#x: % x, %v", ends, b, e)
				}
				if bytes.Equal(b[6:8], base[6:8]) || !bytes.Equal(b[:6], base[:6]) || !bytes.Equal(b[8:], base[8:]) {
					t.Fatalf("%#x: % x, beside % x", ends, b, base)
				}
				if plainSum(ends[0], ends[1], b) != 0 || plainSum(here, there, b) == 0 {
					t.Fatalf("%#x: % x is not its own", ends, b)
				}
			}
		}
	}
}

// P6.1: a checksum of every number but 0, which is 65535 instead, and is right so.
func TestBuildEveryChecksum(t *testing.T) {
	for _, data := range [][]byte{nil, {7}, {7, 8}} {
		seen := map[int]int{}
		for port := range 65536 {
			d := api.Datagram{Src: port, Dst: 53, Data: data}
			b := made(t, d)
			if !bytes.Equal(b, plainBuild(here, there, d)) || plainSum(here, there, b) != 0 {
				t.Fatalf("%d: % x", port, b)
			}
			seen[int(b[6])*256+int(b[7])]++
		}
		if seen[0] != 0 || seen[65535] == 0 || len(seen) != 65535 {
			t.Errorf("%d checksums, %d of them 0, %d of them 65535", len(seen), seen[0], seen[65535])
		}
	}
}

// ports are the fields of a datagram that have bounds.
func ports() []struct {
	name string
	of   func(d *api.Datagram) *int
} {
	return []struct {
		name string
		of   func(d *api.Datagram) *int
	}{
		{"Src", func(d *api.Datagram) *int { return &d.Src }},
		{"Dst", func(d *api.Datagram) *int { return &d.Dst }},
	}
}

// P6.1: ErrArg of each port at both ends and beyond; P6.2: what is within comes back.
func TestBuildPorts(t *testing.T) {
	for _, f := range ports() {
		for _, n := range []int{0, 1, 2, 255, 256, 32767, 32768, 65534, 65535} {
			d := sample()
			*f.of(&d) = n
			b, e := Build(here, there, d)
			if e != api.OK || !bytes.Equal(b, plainBuild(here, there, d)) {
				t.Errorf("%s %d: % x, %v", f.name, n, b, e)
			}
			if got, e := Parse(b); e != api.OK || !equal(got, d) {
				t.Errorf("%s %d: %+v, %v", f.name, n, got, e)
			}
		}
		for _, n := range []int{-1, -2, -65535, -65536, 65536, 65537, 1 << 17, 1 << 32, -1 << 32, math.MaxInt, math.MinInt} {
			d := sample()
			*f.of(&d) = n
			if b, e := Build(here, there, d); e != api.ErrArg || len(b) != 0 {
				t.Errorf("%s %d: % x, %v", f.name, n, b, e)
			}
		}
	}
}

// P6.1: every value of each port has a place of its own in the bytes.
func TestBuildEveryPort(t *testing.T) {
	for _, f := range ports() {
		for n := range 65536 {
			d := api.Datagram{}
			*f.of(&d) = n
			b := made(t, d)
			if got, e := plainParse(b); e != api.OK || !equal(got, d) || len(b) != 8 {
				t.Fatalf("%s %d: % x, %+v, %v", f.name, n, b, got, e)
			}
		}
	}
}

// P6.1: ErrArg, if there are above 65000 bytes of data; the header isn't counted.
func TestBuildLong(t *testing.T) {
	r := rand.New(rand.NewSource(3))
	for _, size := range []int{0, 1, 2, 3, 246, 247, 248, 249, 64992, 64993, 64999, 65000} {
		d := sample()
		d.Data = someBytes(r, size)
		b, e := Build(here, there, d)
		if e != api.OK || len(b) != 8+size || !bytes.Equal(b, plainBuild(here, there, d)) {
			t.Errorf("%d: %d bytes, %v", size, len(b), e)
		}
		if got, e := Parse(b); e != api.OK || !equal(got, d) {
			t.Errorf("%d: %v", size, e)
		}
	}
	for _, size := range []int{65001, 65002, 65527, 65528, 65535, 65536, 65537, 1 << 20} {
		for _, port := range []int{0, 53, -1, 65536} {
			d := api.Datagram{Src: port, Data: make([]byte, size)}
			if b, e := Build(here, there, d); e != api.ErrArg || len(b) != 0 {
				t.Errorf("%d from %d: %d bytes, %v", size, port, len(b), e)
			}
		}
	}
}

// Same is false where any one field differs, also by numbers that no datagram has.
func TestSame(t *testing.T) {
	if !Same(sample(), sample()) || !Same(api.Datagram{}, api.Datagram{}) {
		t.Error("one is not itself")
	}
	for _, x := range []struct {
		name   string
		change func(d *api.Datagram)
	}{
		{"Src", func(d *api.Datagram) { d.Src++ }},
		{"Src by 65536", func(d *api.Datagram) { d.Src += 65536 }},
		{"Src below 0", func(d *api.Datagram) { d.Src = -d.Src }},
		{"Dst", func(d *api.Datagram) { d.Dst-- }},
		{"Dst by 65536", func(d *api.Datagram) { d.Dst -= 65536 }},
		{"Dst below 0", func(d *api.Datagram) { d.Dst = -d.Dst }},
		{"Src and Dst for one another", func(d *api.Datagram) { d.Src, d.Dst = d.Dst, d.Src }},
		{"the first byte of data", func(d *api.Datagram) { d.Data[0]++ }},
		{"the last byte of data", func(d *api.Datagram) { d.Data[4]++ }},
		{"fewer data", func(d *api.Datagram) { d.Data = d.Data[:4] }},
		{"data from the second on", func(d *api.Datagram) { d.Data = d.Data[1:] }},
		{"more data", func(d *api.Datagram) { d.Data = append(d.Data, 0) }},
		{"no data", func(d *api.Datagram) { d.Data = nil }},
		{"empty data", func(d *api.Datagram) { d.Data = []byte{} }},
	} {
		d := sample()
		x.change(&d)
		if Same(d, sample()) || Same(sample(), d) {
			t.Errorf("%s: the same", x.name)
		}
		if !Same(d, d) {
			t.Errorf("%s: not itself", x.name)
		}
	}
}

// W5: nil and empty data are one, on either side, in Build too; spare room counts nothing.
func TestNilAndEmpty(t *testing.T) {
	lists := [][]byte{nil, {}, make([]byte, 0, 9), sample().Data[:0]}
	for _, a := range lists {
		for _, b := range lists {
			d, o := sample(), sample()
			d.Data, o.Data = a, b
			if !Same(d, o) || !bytes.Equal(made(t, d), made(t, o)) {
				t.Errorf("%v, %v", a, b)
			}
		}
	}
	d := sample()
	d.Data = append(make([]byte, 0, 90), d.Data...)
	if !Same(d, sample()) || !Same(sample(), d) || !bytes.Equal(made(t, d), sampleBytes()) {
		t.Error("spare room counts")
	}
}

// P6.2: Parse of Build is it.
func TestThereAndBack(t *testing.T) {
	r := rand.New(rand.NewSource(4))
	for range 20000 {
		d := someDatagram(r)
		src, dst := r.Uint32(), r.Uint32()
		b, e := Build(src, dst, d)
		if e != api.OK || !bytes.Equal(b, plainBuild(src, dst, d)) {
			t.Fatalf("%+v: % x, %v", d, b, e)
		}
		got, e := Parse(b)
		if e != api.OK || !equal(got, d) || !Same(got, d) {
			t.Fatalf("%+v: %+v, %v", d, got, e)
		}
	}
}

// W1: bytes of any kind, and datagrams with bytes wrong or cut off, are told as
// the promise's words tell them, and none panics.
func TestAnyBytes(t *testing.T) {
	r := rand.New(rand.NewSource(5))
	for range 30000 {
		checkParse(t, someBytes(r, r.Intn(90)))
		b := plainBuild(here, there, someDatagram(r))
		for range r.Intn(3) {
			b[r.Intn(len(b))] = byte(r.Intn(256))
		}
		b = append(b, someBytes(r, r.Intn(3))...)
		checkParse(t, b[:len(b)-r.Intn(3)])
	}
}

// roomy is b with spare room behind it, and the whole of its memory.
func roomy(b []byte) (list, memory []byte) {
	memory = append(slices.Clone(b), 0x51, 0x52, 0x53, 0x54, 0x55, 0x56, 0x57, 0x58)
	return memory[:len(b)], memory
}

// fill writes over a list and over the spare room behind it.
func fill(b []byte, n byte) {
	b = b[:cap(b)]
	for i := range b {
		b[i] = n
	}
}

// shows tells whether n stands in a list or in the spare room behind it.
func shows(b []byte, n byte) bool {
	return bytes.IndexByte(b[:cap(b)], n) >= 0
}

// datagrams are some with data of one, of some and of many bytes, and with none.
func datagrams() []api.Datagram {
	return []api.Datagram{sample(), {Data: []byte{1}}, {Src: 1, Data: bytes.Repeat([]byte{7}, 1000)}, {}}
}

// P6.2, W6: neither bytes nor the data of a datagram are changed, nor the room
// behind, whether it errs or not.
func TestNothingHandedInIsChanged(t *testing.T) {
	b := sampleBytes()
	for _, x := range [][]byte{
		b, b[:12], b[:8], b[:7], nil, long(b, 7), long(b, 8), long(b, 11), long(b, 14), changed(b, 6, 0, 7, 0),
	} {
		list, memory := roomy(x)
		before := slices.Clone(memory)
		Parse(list)
		if !bytes.Equal(memory, before) {
			t.Errorf("% x, want % x", memory, before)
		}
	}
	for _, x := range append(datagrams(), api.Datagram{Src: -1, Data: []byte{1}}, api.Datagram{Data: make([]byte, 65001)}) {
		var memory []byte
		d := x
		d.Data, memory = roomy(x.Data)
		before := slices.Clone(memory)
		Build(here, there, d)
		Same(d, sample())
		Same(sample(), d)
		Same(d, d)
		if !bytes.Equal(memory, before) {
			t.Errorf("%d bytes from %d: % x", len(d.Data), d.Src, memory)
		}
	}
}

// P6.2, W6, W7: writing over all that Parse answered, spare room too, changes
// neither the bytes nor another answer; nor does writing over the bytes.
func TestParseIsNewMemory(t *testing.T) {
	for _, d := range datagrams() {
		b, memory := roomy(made(t, d))
		before := slices.Clone(memory)
		first, _ := Parse(b)
		second, _ := Parse(b)
		fill(first.Data, 0xaa)
		if shows(second.Data, 0xaa) || !equal(second, d) {
			t.Errorf("two answers share: %+v", second)
		}
		if !bytes.Equal(memory, before) {
			t.Errorf("what was handed in: % x, want % x", memory, before)
		}
		fill(b, 0xcc)
		if shows(second.Data, 0xcc) || !equal(second, d) {
			t.Errorf("kept: %+v", second)
		}
	}
}

// P6.2, W6, W7: so with Build and what it was given.
func TestBuildIsNewMemory(t *testing.T) {
	for _, x := range datagrams() {
		d := x
		var memory []byte
		d.Data, memory = roomy(x.Data)
		before := slices.Clone(memory)
		want := plainBuild(here, there, x)
		first, second := made(t, d), made(t, d)
		fill(first, 0xaa)
		if !bytes.Equal(second, want) || shows(second[len(second):], 0xaa) {
			t.Errorf("two answers share: % x", second)
		}
		if !bytes.Equal(memory, before) {
			t.Errorf("what was handed in: % x", memory)
		}
		fill(d.Data, 0xcc)
		if !bytes.Equal(second, want) || shows(second[len(second):], 0xcc) {
			t.Errorf("kept: % x", second)
		}
		if third := made(t, x); !bytes.Equal(third, want) {
			t.Errorf("the third: % x", third)
		}
	}
}

// W2: nothing is kept: the same call tells the same, whatever was called between.
func TestNothingIsKept(t *testing.T) {
	d, _ := Parse(sampleBytes())
	Parse(nil)
	Parse(long(sampleBytes(), 7))
	Parse(long(sampleBytes(), 14))
	Build(1, 2, api.Datagram{Src: -1})
	Build(1, 2, api.Datagram{Data: []byte{1}})
	Same(d, api.Datagram{})
	again, e := Parse(sampleBytes())
	if e != api.OK || !equal(again, d) || !bytes.Equal(made(t, sample()), sampleBytes()) {
		t.Error("another answer")
	}
}
