package ip

import (
	"bytes"
	"math"
	"math/rand"
	"reflect"
	"slices"
	"testing"

	"castellan/api"
)

// sample is a packet with a value of its own in every field.
func sample() api.IP {
	return api.IP{
		TOS: 0x12, ID: 0x3456, DF: true, MF: true, Off: 0x0789, TTL: 0x9a, Proto: 0xbc,
		Src: 0x01020304, Dst: 0xf5f6f7f8,
		Options: []byte{11, 12, 13, 14, 15, 16, 17, 18},
		Data:    []byte{21, 22, 23, 24, 25},
	}
}

// sampleBytes are sample's, written out, with a checksum that Build has no part in.
func sampleBytes() []byte {
	return summed([]byte{
		0x47, 0x12, 0, 33, 0x34, 0x56, 0x67, 0x89, 0x9a, 0xbc, 0, 0,
		1, 2, 3, 4, 0xf5, 0xf6, 0xf7, 0xf8,
		11, 12, 13, 14, 15, 16, 17, 18,
		21, 22, 23, 24, 25,
	})
}

// plainSum is a checksum of whole pairs, by division: the bytes are never all
// noughts here, and then what is left of a sum by folding is 1 to 65535.
func plainSum(b []byte) int {
	total := 0
	for i := 0; i < len(b); i += 2 {
		total += int(b[i])*256 + int(b[i+1])
	}
	if total == 0 {
		return 65535
	}
	return 65535 - ((total-1)%65535 + 1)
}

// headOf is how long the header says it is, but no more than there is.
func headOf(b []byte) int {
	return min(int(b[0]%16)*4, len(b)/2*2)
}

// summed is b itself with the checksum of its header anew.
func summed(b []byte) []byte {
	b[10], b[11] = 0, 0
	n := plainSum(b[:headOf(b)])
	b[10], b[11] = byte(n/256), byte(n%256)
	return b
}

// changed is a copy of b with some bytes changed: places and values in turn.
func changed(b []byte, pairs ...int) []byte {
	c := slices.Clone(b)
	for i := 0; i < len(pairs); i += 2 {
		c[pairs[i]] = byte(pairs[i+1])
	}
	return c
}

// made is a packet's bytes, which must be.
func made(t *testing.T, p api.IP) []byte {
	t.Helper()
	b, e := Build(p)
	if e != api.OK {
		t.Fatalf("%+v: %v", p, e)
	}
	return b
}

// isZero tells whether a packet has nothing: P4.1's answer beside an error.
func isZero(p api.IP) bool {
	if len(p.Options) == 0 {
		p.Options = nil
	}
	if len(p.Data) == 0 {
		p.Data = nil
	}
	return reflect.DeepEqual(p, api.IP{})
}

// equal tells whether two packets are one, without Same.
func equal(a, b api.IP) bool {
	return bytes.Equal(a.Options, b.Options) && bytes.Equal(a.Data, b.Data) && func() bool {
		a.Options, a.Data, b.Options, b.Data = nil, nil, nil, nil
		return reflect.DeepEqual(a, b)
	}()
}

// plainParse is P4.1's words, one by one, by division.
func plainParse(b []byte) (api.IP, api.Errno) {
	if len(b) < 20 {
		return api.IP{}, api.ErrShort
	}
	head := int(b[0]) % 16 * 4
	if b[0]/16 != 4 || head < 20 {
		return api.IP{}, api.ErrForm
	}
	if len(b) < head {
		return api.IP{}, api.ErrShort
	}
	if plainSum(b[:head]) != 0 {
		return api.IP{}, api.ErrSum
	}
	all := int(b[2])*256 + int(b[3])
	if all < head || b[6] >= 128 {
		return api.IP{}, api.ErrForm
	}
	if all > len(b) {
		return api.IP{}, api.ErrShort
	}
	four := func(at int) uint32 {
		return uint32(b[at])*(1<<24) + uint32(b[at+1])*(1<<16) + uint32(b[at+2])*(1<<8) + uint32(b[at+3])
	}
	return api.IP{
		TOS: int(b[1]), ID: int(b[4])*256 + int(b[5]),
		DF: b[6]/64%2 == 1, MF: b[6]/32%2 == 1, Off: int(b[6])%32*256 + int(b[7]),
		TTL: int(b[8]), Proto: int(b[9]), Src: four(12), Dst: four(16),
		Options: slices.Clone(b[20:head]), Data: slices.Clone(b[head:all]),
	}, api.OK
}

// plainLess is P4.2's words for Less; the checksum is made anew, which of a
// header (never all noughts) is what Update tells.
func plainLess(b []byte) []byte {
	p, e := plainParse(b)
	if e != api.OK || p.TTL == 0 {
		return nil
	}
	c := slices.Clone(b[:int(b[0])%16*4+len(p.Data)])
	c[8]--
	return summed(c)
}

// checkParse holds Parse and Less against the plain ones.
func checkParse(t *testing.T, b []byte) {
	t.Helper()
	want, wantErr := plainParse(b)
	if got, e := Parse(b); e != wantErr || !equal(got, want) {
		t.Fatalf("Parse(% x): %+v, %v, want %+v, %v", b, got, e, want, wantErr)
	}
	if got, want := Less(b), plainLess(b); !bytes.Equal(got, want) {
		t.Fatalf("Less(% x): % x, want % x", b, got, want)
	}
}

// someBytes are n bytes that hang on r alone.
func someBytes(r *rand.Rand, n int) []byte {
	b := make([]byte, n)
	for i := range b {
		b[i] = byte(r.Intn(256))
	}
	return b
}

// somePacket is one that Build takes.
func somePacket(r *rand.Rand) api.IP {
	return api.IP{
		TOS: r.Intn(256), ID: r.Intn(65536), DF: r.Intn(2) == 0, MF: r.Intn(2) == 0, Off: r.Intn(8192),
		TTL: r.Intn(256), Proto: r.Intn(256), Src: r.Uint32(), Dst: r.Uint32(),
		Options: someBytes(r, 4*r.Intn(11)), Data: someBytes(r, r.Intn(40)),
	}
}

// P4.1: a packet is read field by field.
func TestParse(t *testing.T) {
	if got, e := Parse(sampleBytes()); e != api.OK || !equal(got, sample()) {
		t.Errorf("%+v, %v", got, e)
	}
}

// P4.1: each error alone, at its edges, and what is just within them.
func TestParseErrors(t *testing.T) {
	b := sampleBytes()
	bare := summed([]byte{0x45, 0, 0, 20, 0, 0, 0, 0, 1, 2, 0, 0, 1, 2, 3, 4, 5, 6, 7, 8})
	for _, x := range []struct {
		name string
		b    []byte
		want api.Errno
	}{
		{"nil", nil, api.ErrShort},
		{"empty", []byte{}, api.ErrShort},
		{"one byte", []byte{0x45}, api.ErrShort},
		{"19 bytes", bare[:19], api.ErrShort},
		{"20 bytes", bare, api.OK},
		{"version 0", summed(changed(b, 0, 0x07)), api.ErrForm},
		{"version 3", summed(changed(b, 0, 0x37)), api.ErrForm},
		{"version 5", summed(changed(b, 0, 0x57)), api.ErrForm},
		{"version 6", summed(changed(b, 0, 0x67)), api.ErrForm},
		{"version 12", summed(changed(b, 0, 0xc7)), api.ErrForm},
		{"a header of none", changed(b, 0, 0x40), api.ErrForm},
		{"a header of 16", summed(changed(b, 0, 0x44)), api.ErrForm},
		{"a header of 20", summed(changed(b, 0, 0x45)), api.OK},
		{"fewer than the header by one", b[:27], api.ErrShort},
		{"fewer than the greatest header", changed(b, 0, 0x4f), api.ErrShort},
		{"the header alone, where all is more", b[:28], api.ErrShort},
		{"the header alone, where all is it", summed(changed(b[:28], 3, 28)), api.OK},
		{"a checksum one more", changed(b, 11, int(b[11])+1), api.ErrSum},
		{"a checksum one less", changed(b, 11, int(b[11])-1), api.ErrSum},
		{"no checksum", changed(b, 10, 0, 11, 0), api.ErrSum},
		{"a wrong byte of the options", changed(b, 27, 19), api.ErrSum},
		{"another byte of the data", changed(b, 28, 99), api.OK},
		{"all is 0", summed(changed(b, 3, 0)), api.ErrForm},
		{"all is 20", summed(changed(b, 3, 20)), api.ErrForm},
		{"all is one fewer than the header", summed(changed(b, 3, 27)), api.ErrForm},
		{"all is the header", summed(changed(b, 3, 28)), api.OK},
		{"the highest bit of 6", summed(changed(b, 6, 0xe7)), api.ErrForm},
		{"the highest bit of 6 alone", summed(changed(b, 6, 0x80, 7, 0)), api.ErrForm},
		{"the highest bit of 7", summed(changed(b, 7, 0xff)), api.OK},
		{"one fewer than all", b[:32], api.ErrShort},
		{"all is one more", summed(changed(b, 3, 34)), api.ErrShort},
		{"all is 256 more", summed(changed(b, 2, 1)), api.ErrShort},
		{"all is 65535", summed(changed(b, 2, 255, 3, 255)), api.ErrShort},
	} {
		p, e := Parse(x.b)
		if e != x.want || e != api.OK && !isZero(p) {
			t.Errorf("%s: %+v, %v, want %v", x.name, p, e, x.want)
		}
	}
}

// P4.1, W4: where several errors apply, the one that is named first is told.
func TestParseErrorsInOrder(t *testing.T) {
	b := sampleBytes()
	for _, x := range []struct {
		name string
		b    []byte
		want api.Errno
	}{
		{"short, wrong version", changed(b, 0, 0x65)[:19], api.ErrShort},
		{"short, a header of 16", changed(b, 0, 0x44)[:19], api.ErrShort},
		{"short, wrong checksum", changed(b, 0, 0x45, 10, 0)[:19], api.ErrShort},
		{"short, the highest bit", changed(b, 6, 0x80)[:19], api.ErrShort},
		{"wrong version, fewer than the header", changed(b, 0, 0x6f), api.ErrForm},
		{"wrong version, wrong checksum", changed(b, 0, 0x67), api.ErrForm},
		{"wrong version, all more than b", changed(b, 0, 0x67, 2, 9), api.ErrForm},
		{"a header of 16, wrong checksum", changed(b, 0, 0x44), api.ErrForm},
		{"a header of 16, all more than b", summed(changed(b, 0, 0x44, 2, 9)), api.ErrForm},
		{"fewer than the header, wrong checksum", changed(b, 0, 0x4f), api.ErrShort},
		{"fewer than the header, all too few", changed(b, 0, 0x4f, 3, 0), api.ErrShort},
		{"fewer than the header, the highest bit", summed(changed(b, 0, 0x4f, 6, 0x80)), api.ErrShort},
		{"wrong checksum, all too few", changed(b, 3, 19), api.ErrSum},
		{"wrong checksum, the highest bit", changed(b, 6, 0xe7), api.ErrSum},
		{"wrong checksum, all more than b", changed(b, 2, 9), api.ErrSum},
		{"the highest bit, all too few", summed(changed(b, 6, 0xe7, 3, 19)), api.ErrForm},
		{"the highest bit, all more than b", summed(changed(b, 6, 0xe7, 2, 9)), api.ErrForm},
	} {
		p, e := Parse(x.b)
		if e != x.want || !isZero(p) {
			t.Errorf("%s: %+v, %v, want %v", x.name, p, e, x.want)
		}
	}
}

// P4.1: every byte 0, at every length from none on.
func TestParseEveryFirstByteAndLength(t *testing.T) {
	long := someBytes(rand.New(rand.NewSource(1)), 70)
	long[2], long[3], long[6] = 0, 62, 0
	for first := range 256 {
		long[0] = byte(first)
		if first%16 >= 3 {
			summed(long)
		}
		for size := range len(long) + 1 {
			checkParse(t, long[:size])
		}
	}
}

// P4.1: every number of all, at a length in the midst.
func TestParseEveryAll(t *testing.T) {
	b := append(sampleBytes(), make([]byte, 300)...)
	for all := range 65536 {
		b[2], b[3] = byte(all>>8), byte(all)
		summed(b)
		p, e := Parse(b)
		switch {
		case all < 28 && e == api.ErrForm && isZero(p):
		case all > len(b) && e == api.ErrShort && isZero(p):
		case all >= 28 && all <= len(b) && e == api.OK && bytes.Equal(p.Data, b[28:all]):
		default:
			t.Fatalf("%d: %v", all, e)
		}
	}
}

// P4.1: every value of bytes 6 and 7.
func TestParseEveryCut(t *testing.T) {
	b := sampleBytes()
	for n := range 65536 {
		b[6], b[7] = byte(n>>8), byte(n)
		summed(b)
		p, e := Parse(b)
		if n >= 32768 {
			if e != api.ErrForm || !isZero(p) {
				t.Fatalf("%#x: %+v, %v", n, p, e)
			}
			continue
		}
		if e != api.OK || p.DF != (n/16384%2 == 1) || p.MF != (n/8192%2 == 1) || p.Off != n%8192 {
			t.Fatalf("%#x: %+v, %v", n, p, e)
		}
	}
}

// P4.1: every value of every byte of a header, with its checksum and without.
func TestParseEveryByte(t *testing.T) {
	for _, b := range [][]byte{sampleBytes(), append(sampleBytes(), 1, 2, 3)} {
		for at := range b {
			for n := range 256 {
				c := changed(b, at, n)
				checkParse(t, c)
				if headOf(c) >= 12 {
					checkParse(t, summed(c))
				}
			}
		}
	}
}

// P4.1: a checksum is Right or wrong, whatever its number: 0 and 65535 are one.
func TestParseEveryChecksum(t *testing.T) {
	b := sampleBytes()
	right := int(b[10])*256 + int(b[11])
	for n := range 65536 {
		b[10], b[11] = byte(n>>8), byte(n)
		if _, e := Parse(b); (e == api.OK) != (n == right) || e != api.OK && e != api.ErrSum {
			t.Fatalf("%#x: %v", n, e)
		}
	}
	// With this ID the header adds up to 65535 without a checksum.
	b = summed(changed(sampleBytes(), 4, 0, 5, 0))
	b = summed(changed(b, 4, int(b[10]), 5, int(b[11])))
	for _, n := range []int{0, 255} {
		c := changed(b, 10, n, 11, n)
		checkParse(t, c)
		if _, e := Parse(c); e != api.OK {
			t.Errorf("%d: %v", n, e)
		}
	}
	checkParse(t, changed(b, 10, 0, 11, 1))
}

// P4.1: bytes behind all do not count, nor does the spare room behind b.
func TestParseLeavesWhatIsBehind(t *testing.T) {
	b := sampleBytes()
	for _, more := range [][]byte{{}, {1}, {255, 255}, make([]byte, 100), make([]byte, 70000)} {
		if p, e := Parse(append(slices.Clone(b), more...)); e != api.OK || !equal(p, sample()) {
			t.Errorf("%d behind: %+v, %v", len(more), p, e)
		}
	}
	for size := range b {
		if p, e := Parse(b[:size]); e != api.ErrShort || !isZero(p) {
			t.Errorf("%d of %d bytes: %+v, %v", size, len(b), p, e)
		}
	}
}

// P4.2: the bytes of packets, written out.
func TestBuild(t *testing.T) {
	for _, x := range []struct {
		name string
		p    api.IP
		want []byte
	}{
		{"every field", sample(), sampleBytes()},
		{"nothing", api.IP{}, []byte{0x45, 0, 0, 20, 0, 0, 0, 0, 0, 0, 0xba, 0xeb, 0, 0, 0, 0, 0, 0, 0, 0}},
		{"a known header", api.IP{DF: true, TTL: 64, Proto: api.UDP, Src: 0xc0a80001, Dst: 0xc0a800c7, Data: make([]byte, 95)},
			append([]byte{0x45, 0, 0, 0x73, 0, 0, 0x40, 0, 0x40, 0x11, 0xb8, 0x61, 0xc0, 0xa8, 0, 1, 0xc0, 0xa8, 0, 0xc7}, make([]byte, 95)...)},
		{"DF alone", api.IP{DF: true}, summed([]byte{0x45, 0, 0, 20, 0, 0, 0x40, 0, 0, 0, 0, 0, 0, 0, 0, 0, 0, 0, 0, 0})},
		{"MF alone", api.IP{MF: true}, summed([]byte{0x45, 0, 0, 20, 0, 0, 0x20, 0, 0, 0, 0, 0, 0, 0, 0, 0, 0, 0, 0, 0})},
		{"Off alone", api.IP{Off: 8191}, summed([]byte{0x45, 0, 0, 20, 0, 0, 0x1f, 0xff, 0, 0, 0, 0, 0, 0, 0, 0, 0, 0, 0, 0})},
		{"options alone", api.IP{Options: []byte{1, 2, 3, 4}}, summed([]byte{0x46, 0, 0, 24, 0, 0, 0, 0, 0, 0, 0, 0, 0, 0, 0, 0, 0, 0, 0, 0, 1, 2, 3, 4})},
		{"one byte of data", api.IP{Data: []byte{7}}, append(summed([]byte{0x45, 0, 0, 21, 0, 0, 0, 0, 0, 0, 0, 0, 0, 0, 0, 0, 0, 0, 0, 0}), 7)},
	} {
		if b, e := Build(x.p); e != api.OK || !bytes.Equal(b, x.want) {
			t.Errorf("%s: % x, %v, want % x", x.name, b, e, x.want)
		}
	}
}

// The chapter's example: of no options and no data, nil or empty, there are 20 bytes.
func TestBuildExample(t *testing.T) {
	for _, p := range []api.IP{{}, {Options: []byte{}, Data: []byte{}}, {TTL: 64, Proto: 6, Src: 1, Dst: 2}} {
		if b, e := Build(p); e != api.OK || len(b) != 20 {
			t.Errorf("%+v: % x, %v", p, b, e)
		}
	}
}

// numbers are the fields of a packet that have bounds, each with its greatest.
func numbers() []struct {
	name string
	most int
	of   func(p *api.IP) *int
} {
	return []struct {
		name string
		most int
		of   func(p *api.IP) *int
	}{
		{"TOS", 255, func(p *api.IP) *int { return &p.TOS }},
		{"TTL", 255, func(p *api.IP) *int { return &p.TTL }},
		{"Proto", 255, func(p *api.IP) *int { return &p.Proto }},
		{"ID", 65535, func(p *api.IP) *int { return &p.ID }},
		{"Off", 8191, func(p *api.IP) *int { return &p.Off }},
	}
}

// P4.2: ErrArg of each number at both ends and beyond; P4.3: what is within comes back.
func TestBuildNumbers(t *testing.T) {
	for _, f := range numbers() {
		for _, n := range []int{0, 1, 2, f.most / 2, f.most - 1, f.most} {
			p := sample()
			*f.of(&p) = n
			b, e := Build(p)
			if e != api.OK {
				t.Errorf("%s %d: %v", f.name, n, e)
			}
			if got, e := Parse(b); e != api.OK || !equal(got, p) {
				t.Errorf("%s %d: %+v, %v", f.name, n, got, e)
			}
		}
		for _, n := range []int{-1, -2, -f.most, -f.most - 1, f.most + 1, f.most + 2, 2*f.most + 1, 1 << 16, 1 << 17, 1 << 32, math.MaxInt, math.MinInt} {
			p := sample()
			*f.of(&p) = n
			if b, e := Build(p); e != api.ErrArg || len(b) != 0 {
				t.Errorf("%s %d: % x, %v", f.name, n, b, e)
			}
		}
	}
}

// P4.2: every value of each number has a place of its own in the bytes.
func TestBuildEveryNumber(t *testing.T) {
	for _, f := range numbers() {
		for n := range f.most + 1 {
			p := api.IP{DF: n%3 == 0, MF: n%5 == 0}
			*f.of(&p) = n
			b := made(t, p)
			if got, e := plainParse(b); e != api.OK || !equal(got, p) || len(b) != 20 {
				t.Fatalf("%s %d: % x, %+v, %v", f.name, n, b, got, e)
			}
		}
	}
}

// P4.2: Options of every length: whole fours up to 40 bytes, else ErrArg.
func TestBuildOptions(t *testing.T) {
	r := rand.New(rand.NewSource(2))
	for size := range 130 {
		p := sample()
		p.Options = someBytes(r, size)
		b, e := Build(p)
		if size%4 != 0 || size > 40 {
			if e != api.ErrArg || len(b) != 0 {
				t.Errorf("%d: % x, %v", size, b, e)
			}
			continue
		}
		if e != api.OK || len(b) != 20+size+len(p.Data) || Header(b) != 20+size || !bytes.Equal(b[20:20+size], p.Options) || !bytes.Equal(b[20+size:], p.Data) {
			t.Errorf("%d: % x, %v", size, b, e)
		}
		if got, e := Parse(b); e != api.OK || !equal(got, p) {
			t.Errorf("%d: %+v, %v", size, got, e)
		}
	}
	for _, size := range []int{64, 256, 260, 65536, 1 << 20} {
		if b, e := Build(api.IP{Options: make([]byte, size)}); e != api.ErrArg || len(b) != 0 {
			t.Errorf("%d: %v", size, e)
		}
	}
}

// P4.2: ErrLong, if all would be above 65535; of options too.
func TestBuildLong(t *testing.T) {
	for options := 0; options <= 40; options += 4 {
		room := 65515 - options
		p := api.IP{Options: make([]byte, options), TTL: 1}
		for _, size := range []int{room - 1, room} {
			p.Data = make([]byte, size)
			p.Data[size-1] = 9
			b, e := Build(p)
			if e != api.OK || len(b) != 20+options+size || b[len(b)-1] != 9 {
				t.Errorf("%d, %d: %d bytes, %v", options, size, len(b), e)
			}
			if got, e := Parse(b); e != api.OK || !equal(got, p) {
				t.Errorf("%d, %d: %v", options, size, e)
			}
			p.TTL = 0
			if l := Less(b); !bytes.Equal(l, made(t, p)) {
				t.Errorf("%d, %d: %d bytes less", options, size, len(l))
			}
			p.TTL = 1
		}
		for _, size := range []int{room + 1, room + 2, 65536, 65536 + room, 1 << 20} {
			p.Data = make([]byte, size)
			if b, e := Build(p); e != api.ErrLong || len(b) != 0 {
				t.Errorf("%d, %d: %d bytes, %v", options, size, len(b), e)
			}
		}
	}
}

// P4.2, W4: ErrArg comes ahead of ErrLong.
func TestBuildErrorsInOrder(t *testing.T) {
	long := make([]byte, 65536)
	for _, f := range numbers() {
		p := api.IP{Data: long}
		*f.of(&p) = -1
		if b, e := Build(p); e != api.ErrArg || len(b) != 0 {
			t.Errorf("%s: %v", f.name, e)
		}
	}
	for _, size := range []int{1, 44, 65536} {
		if b, e := Build(api.IP{Data: long, Options: long[:size]}); e != api.ErrArg || len(b) != 0 {
			t.Errorf("options of %d: %v", size, e)
		}
	}
}

// P4.2: Header by byte 0 alone.
func TestHeader(t *testing.T) {
	if Header(nil) != 0 || Header([]byte{}) != 0 || Header([]byte{0x4f}[:0]) != 0 {
		t.Error("of none")
	}
	for n := range 256 {
		want := n % 16 * 4
		for _, behind := range [][]byte{nil, {0}, {255, 255}, sampleBytes(), make([]byte, 100)} {
			if got := Header(append([]byte{byte(n)}, behind...)); got != want {
				t.Errorf("%#x and %d behind: %d, want %d", n, len(behind), got, want)
			}
		}
	}
}

// P4.2: Less of every TTL: one less, the checksum Updated, all else as it was.
func TestLess(t *testing.T) {
	for ttl := range 256 {
		for _, proto := range []int{0, 1, 6, 17, 255} {
			p := sample()
			p.TTL, p.Proto = ttl, proto
			b := made(t, p)
			got := Less(b)
			if ttl == 0 {
				if len(got) != 0 {
					t.Errorf("TTL 0: % x", got)
				}
				continue
			}
			p.TTL--
			if !bytes.Equal(got, made(t, p)) {
				t.Errorf("TTL %d: % x, want % x", ttl, got, made(t, p))
			}
			if q, e := Parse(got); e != api.OK || !equal(q, p) {
				t.Errorf("TTL %d: %+v, %v", ttl, q, e)
			}
		}
	}
}

// P4.2: Less is a known header's, byte by byte.
func TestLessKnown(t *testing.T) {
	b := []byte{0x45, 0, 0, 0x15, 0, 0, 0x40, 0, 0x40, 0x11, 0xb8, 0xbf, 0xc0, 0xa8, 0, 1, 0xc0, 0xa8, 0, 0xc7, 5}
	want := []byte{0x45, 0, 0, 0x15, 0, 0, 0x40, 0, 0x3f, 0x11, 0xb9, 0xbf, 0xc0, 0xa8, 0, 1, 0xc0, 0xa8, 0, 0xc7, 5}
	if got := Less(b); !bytes.Equal(got, want) {
		t.Errorf("% x, want % x", got, want)
	}
}

// P4.2: whatever the checksum is, also where it is 0, 65535, or goes beyond.
func TestLessEveryChecksum(t *testing.T) {
	p := api.IP{TTL: 200, Proto: 6}
	for id := range 65536 {
		p.ID = id
		b := made(t, p)
		q := p
		q.TTL--
		if got := Less(b); !bytes.Equal(got, made(t, q)) {
			t.Fatalf("% x: % x, want % x", b, got, made(t, q))
		}
		if b[10] != 0 || b[11] != 0 {
			continue
		}
		// 65535 stands for 0 there: such bytes Parse too.
		if got := Less(changed(b, 10, 255, 11, 255)); !bytes.Equal(got, made(t, q)) {
			t.Fatalf("65535 for 0: % x, want % x", got, made(t, q))
		}
	}
}

// P4.2: Less ends at all.
func TestLessUpToAll(t *testing.T) {
	b := sampleBytes()
	want := Less(b)
	if len(want) != len(b) {
		t.Fatalf("% x", want)
	}
	for _, more := range []int{1, 2, 7, 1000} {
		if got := Less(append(slices.Clone(b), make([]byte, more)...)); !bytes.Equal(got, want) {
			t.Errorf("%d behind: % x, want % x", more, got, want)
		}
	}
}

// P4.2: of bytes that do not Parse, whatever the error is, Less is nothing.
func TestLessOfOthers(t *testing.T) {
	b := sampleBytes()
	for size := range b {
		if got := Less(b[:size]); len(got) != 0 {
			t.Errorf("%d of %d bytes: % x", size, len(b), got)
		}
	}
	for _, x := range []struct {
		name string
		b    []byte
	}{
		{"nil", nil},
		{"wrong version", summed(changed(b, 0, 0x67))},
		{"a header of 16", summed(changed(b, 0, 0x44))},
		{"fewer than the header", changed(b, 0, 0x4f)},
		{"wrong checksum", changed(b, 10, int(b[10])+1)},
		{"all is fewer than the header", summed(changed(b, 3, 27))},
		{"the highest bit of 6", summed(changed(b, 6, 0xe7))},
		{"all is more than b", summed(changed(b, 3, 34))},
		{"TTL 0", summed(changed(b, 8, 0))},
		{"TTL 0 and bytes behind", append(summed(changed(b, 8, 0)), 1)},
		{"TTL 0 and a wrong checksum", changed(b, 8, 0)},
	} {
		if got := Less(x.b); len(got) != 0 {
			t.Errorf("%s: % x", x.name, got)
		}
	}
}

// P4.3: row upon row of Less down to TTL 0 stays the packet, but for TTL.
func TestLessDownToNothing(t *testing.T) {
	p := sample()
	p.TTL = 255
	b := made(t, p)
	for p.TTL > 0 {
		p.TTL--
		b = Less(b)
		if q, e := Parse(b); e != api.OK || !equal(q, p) {
			t.Fatalf("TTL %d: %+v, %v", p.TTL, q, e)
		}
	}
	if b = Less(b); len(b) != 0 {
		t.Errorf("below 0: % x", b)
	}
}

// P4.2: Same is false where any one field differs, also by numbers that no header has.
func TestSame(t *testing.T) {
	if !Same(sample(), sample()) || !Same(api.IP{}, api.IP{}) {
		t.Error("one is not itself")
	}
	for _, x := range []struct {
		name   string
		change func(p *api.IP)
	}{
		{"TOS", func(p *api.IP) { p.TOS++ }},
		{"TOS by 256", func(p *api.IP) { p.TOS += 256 }},
		{"ID", func(p *api.IP) { p.ID++ }},
		{"ID by 65536", func(p *api.IP) { p.ID += 65536 }},
		{"DF", func(p *api.IP) { p.DF = false }},
		{"MF", func(p *api.IP) { p.MF = false }},
		{"Off", func(p *api.IP) { p.Off++ }},
		{"Off by 8192", func(p *api.IP) { p.Off += 8192 }},
		{"Off below 0", func(p *api.IP) { p.Off = -p.Off }},
		{"TTL", func(p *api.IP) { p.TTL-- }},
		{"TTL by 256", func(p *api.IP) { p.TTL -= 256 }},
		{"Proto", func(p *api.IP) { p.Proto++ }},
		{"Proto by 256", func(p *api.IP) { p.Proto += 256 }},
		{"Src", func(p *api.IP) { p.Src ^= 1 << 31 }},
		{"Dst", func(p *api.IP) { p.Dst ^= 1 }},
		{"Src and Dst for one another", func(p *api.IP) { p.Src, p.Dst = p.Dst, p.Src }},
		{"an option", func(p *api.IP) { p.Options[7]++ }},
		{"fewer options", func(p *api.IP) { p.Options = p.Options[:7] }},
		{"more options", func(p *api.IP) { p.Options = append(p.Options, 0) }},
		{"no options", func(p *api.IP) { p.Options = nil }},
		{"a byte of data", func(p *api.IP) { p.Data[0]++ }},
		{"fewer data", func(p *api.IP) { p.Data = p.Data[:4] }},
		{"more data", func(p *api.IP) { p.Data = append(p.Data, 0) }},
		{"no data", func(p *api.IP) { p.Data = []byte{} }},
		{"options as data", func(p *api.IP) { p.Options, p.Data = nil, append(p.Options, p.Data...) }},
	} {
		p := sample()
		x.change(&p)
		if Same(p, sample()) || Same(sample(), p) {
			t.Errorf("%s: the same", x.name)
		}
		if !Same(p, p) {
			t.Errorf("%s: not itself", x.name)
		}
	}
}

// P4.2, W5: nil and empty are one, of Options and of Data, on either side.
func TestSameNilAndEmpty(t *testing.T) {
	lists := [][]byte{nil, {}, make([]byte, 0, 9)}
	for _, a := range lists {
		for _, b := range lists {
			p, q := sample(), sample()
			p.Options, q.Options = a, b
			if !Same(p, q) {
				t.Errorf("options %v, %v", a, b)
			}
			p, q = sample(), sample()
			p.Data, q.Data = a, b
			if !Same(p, q) {
				t.Errorf("data %v, %v", a, b)
			}
		}
	}
	p, q := sample(), sample()
	p.Options = append(make([]byte, 0, 90), p.Options...)
	if !Same(p, q) {
		t.Error("spare room counts")
	}
}

// P4.3: Parse of Build is it, and of Less is it, but for TTL.
func TestThereAndBack(t *testing.T) {
	r := rand.New(rand.NewSource(3))
	for range 20000 {
		p := somePacket(r)
		b := made(t, p)
		if q, e := plainParse(b); e != api.OK || !equal(q, p) {
			t.Fatalf("%+v: % x", p, b)
		}
		got, e := Parse(b)
		if e != api.OK || !equal(got, p) || !Same(got, p) {
			t.Fatalf("%+v: %+v, %v", p, got, e)
		}
		if again := made(t, got); !bytes.Equal(again, b) {
			t.Fatalf("% x, want % x", again, b)
		}
		l := Less(b)
		if p.TTL == 0 {
			if len(l) != 0 {
				t.Fatalf("%+v: % x", p, l)
			}
			continue
		}
		p.TTL--
		if got, e := Parse(l); e != api.OK || !Same(got, p) {
			t.Fatalf("%+v: %+v, %v", p, got, e)
		}
	}
}

// W1: bytes of any kind, and packets with bytes wrong or cut off, are told as
// the promise's words tell them, and none panics.
func TestAnyBytes(t *testing.T) {
	r := rand.New(rand.NewSource(4))
	for range 30000 {
		b := someBytes(r, r.Intn(90))
		checkParse(t, b)
		b, _ = Build(somePacket(r))
		for range r.Intn(3) {
			b[r.Intn(len(b))] = byte(r.Intn(256))
		}
		if r.Intn(3) > 0 && headOf(b) >= 12 {
			summed(b)
		}
		b = append(b, someBytes(r, r.Intn(3))...)
		checkParse(t, b[:len(b)-r.Intn(3)])
		Header(b)
	}
}

// roomy is b with spare room behind it, and the whole of its memory.
func roomy(b []byte) (list, memory []byte) {
	memory = append(slices.Clone(b), 0x51, 0x52, 0x53, 0x54, 0x55, 0x56, 0x57, 0x58)
	return memory[:len(b)], memory
}

// fill writes over a list and over the spare room behind it.
func fill(b []byte, n byte) {
	b = b[:cap(b)]
	for i := range b {
		b[i] = n
	}
}

// P4.3, W6: neither bytes nor lists of a packet are changed, nor the room behind.
func TestNothingHandedInIsChanged(t *testing.T) {
	for _, x := range [][]byte{
		sampleBytes(), append(sampleBytes(), 1, 2, 3), sampleBytes()[:32], sampleBytes()[:7], nil,
		changed(sampleBytes(), 10, 0), summed(changed(sampleBytes(), 8, 0)), made(t, api.IP{TTL: 1}),
	} {
		b, memory := roomy(x)
		before := slices.Clone(memory)
		Parse(b)
		Less(b)
		Header(b)
		if !bytes.Equal(memory, before) {
			t.Errorf("% x, want % x", memory, before)
		}
	}
	for _, short := range []int{0, 1} {
		p := sample()
		var options, data []byte
		p.Options, options = roomy(p.Options[short:])
		p.Data, data = roomy(p.Data)
		optionsBefore, dataBefore := slices.Clone(options), slices.Clone(data)
		Build(p)
		Same(p, sample())
		Same(sample(), p)
		if !bytes.Equal(options, optionsBefore) || !bytes.Equal(data, dataBefore) {
			t.Errorf("% x, % x", options, data)
		}
	}
}

// P4.3, W6: writing over all that Parse answered, spare room too, changes
// neither the bytes nor its other list nor another answer.
func TestParseIsNewMemory(t *testing.T) {
	for _, p := range []api.IP{sample(), {Options: []byte{1, 2, 3, 4}}, {Data: []byte{1, 2, 3}}, {}} {
		b, memory := roomy(made(t, p))
		before := slices.Clone(memory)
		first, _ := Parse(b)
		second, _ := Parse(b)
		fill(first.Options, 0xaa)
		if !bytes.Equal(first.Data, p.Data) || !equal(second, p) {
			t.Errorf("options share: %+v", first)
		}
		fill(first.Data, 0xbb)
		if bytes.IndexByte(first.Options[:cap(first.Options)], 0xbb) >= 0 || !equal(second, p) {
			t.Errorf("data share: %+v", first)
		}
		if !bytes.Equal(memory, before) {
			t.Errorf("what was handed in: % x, want % x", memory, before)
		}
		fill(b, 0xcc)
		for _, l := range [][]byte{second.Options, second.Data} {
			if bytes.IndexByte(l[:cap(l)], 0xcc) >= 0 {
				t.Errorf("what was handed in shows: % x", l[:cap(l)])
			}
		}
		if !equal(second, p) {
			t.Errorf("kept: %+v", second)
		}
	}
}

// P4.3, W6, W7: so with Build and what it was given.
func TestBuildIsNewMemory(t *testing.T) {
	for _, x := range []api.IP{sample(), {Options: []byte{1, 2, 3, 4}}, {Data: []byte{1, 2, 3}}, {}} {
		p := x
		var options, data []byte
		p.Options, options = roomy(x.Options)
		p.Data, data = roomy(x.Data)
		optionsBefore, dataBefore := slices.Clone(options), slices.Clone(data)
		want := made(t, x)
		first, second := made(t, p), made(t, p)
		fill(first, 0xaa)
		if !bytes.Equal(second, want) || bytes.IndexByte(second[len(second):cap(second)], 0xaa) >= 0 {
			t.Errorf("two answers share: % x", second)
		}
		if !bytes.Equal(options, optionsBefore) || !bytes.Equal(data, dataBefore) {
			t.Errorf("what was handed in: % x, % x", options, data)
		}
		fill(p.Options, 0xcc)
		fill(p.Data, 0xcc)
		if !bytes.Equal(second, want) || bytes.IndexByte(second[len(second):cap(second)], 0xcc) >= 0 {
			t.Errorf("kept: % x", second)
		}
		if third := made(t, x); !bytes.Equal(third, want) {
			t.Errorf("the third: % x", third)
		}
	}
}

// P4.3, W6, W7: so with Less.
func TestLessIsNewMemory(t *testing.T) {
	for _, x := range [][]byte{sampleBytes(), append(sampleBytes(), 1, 2, 3), made(t, api.IP{TTL: 1})} {
		b, memory := roomy(x)
		before := slices.Clone(memory)
		want := plainLess(x)
		first, second := Less(b), Less(b)
		fill(first, 0xaa)
		if !bytes.Equal(second, want) || bytes.IndexByte(second[len(second):cap(second)], 0xaa) >= 0 {
			t.Errorf("two answers share: % x", second)
		}
		if !bytes.Equal(memory, before) {
			t.Errorf("what was handed in: % x, want % x", memory, before)
		}
		fill(b, 0xcc)
		if !bytes.Equal(second, want) || bytes.IndexByte(second[len(second):cap(second)], 0xcc) >= 0 {
			t.Errorf("kept: % x", second)
		}
	}
}

// W2: nothing is kept: the same call tells the same, whatever was called between.
func TestNothingIsKept(t *testing.T) {
	b := sampleBytes()
	p, _ := Parse(b)
	l := Less(b)
	Parse(nil)
	Build(api.IP{TOS: -1})
	Build(api.IP{Data: []byte{1}})
	Less(b[:30])
	Header([]byte{0x4f})
	if q, e := Parse(b); e != api.OK || !equal(q, p) || !bytes.Equal(Less(b), l) || Header(b) != 28 || !bytes.Equal(made(t, sample()), b) {
		t.Error("another answer")
	}
}
