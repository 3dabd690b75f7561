package tcp

import (
	"bytes"
	"math"
	"math/rand"
	"reflect"
	"slices"
	"testing"

	"castellan/api"
)

const (
	here  = 0x0a0b0c0d
	there = 0xf1e2d3c4
)

// sample is a segment with a value of its own in every field.
func sample() api.Segment {
	return api.Segment{
		Src: 0x1234, Dst: 0xfedc, Seq: 0x01020304, Ack: 0xf5f6f7f8,
		Flags: api.FlagAck | api.FlagPsh | api.FlagFin, Win: 0x5678, Urg: 0x9abc,
		Options: []byte{11, 12, 13, 14, 15, 16, 17, 18},
		Data:    []byte{21, 22, 23, 24, 25},
	}
}

// sampleBytes are sample's from here to there, written out, with a checksum
// that Build has no part in.
func sampleBytes() []byte {
	return summed(here, there, []byte{
		0x12, 0x34, 0xfe, 0xdc, 1, 2, 3, 4, 0xf5, 0xf6, 0xf7, 0xf8,
		0x70, 0x19, 0x56, 0x78, 0, 0, 0x9a, 0xbc,
		11, 12, 13, 14, 15, 16, 17, 18,
		21, 22, 23, 24, 25,
	})
}

// plainSum is the checksum of a segment's bytes, as they stand, by division:
// the total is never 0 here, for the protocol's number is in it, and then what
// is left of it by folding is 1 to 65535.
func plainSum(src, dst uint32, b []byte) int {
	total := int(src/65536) + int(src%65536) + int(dst/65536) + int(dst%65536) + 6 + len(b)
	for i, n := range b {
		if i%2 == 0 {
			total += int(n) * 256
		} else {
			total += int(n)
		}
	}
	return 65535 - ((total-1)%65535 + 1)
}

// summed is b itself with its checksum anew.
func summed(src, dst uint32, b []byte) []byte {
	b[16], b[17] = 0, 0
	n := plainSum(src, dst, b)
	b[16], b[17] = byte(n/256), byte(n%256)
	return b
}

// changed is a copy of b with some bytes changed: places and values in turn.
func changed(b []byte, pairs ...int) []byte {
	c := slices.Clone(b)
	for i := 0; i < len(pairs); i += 2 {
		c[pairs[i]] = byte(pairs[i+1])
	}
	return c
}

// made is a segment's bytes from here to there, which must be.
func made(t *testing.T, s api.Segment) []byte {
	t.Helper()
	b, e := Build(here, there, s)
	if e != api.OK {
		t.Fatalf("%+v: %v", s, e)
	}
	return b
}

// equal tells whether two segments are one, without Same.
func equal(a, b api.Segment) bool {
	lists := bytes.Equal(a.Options, b.Options) && bytes.Equal(a.Data, b.Data)
	a.Options, a.Data, b.Options, b.Data = nil, nil, nil, nil
	return lists && reflect.DeepEqual(a, b)
}

// isZero tells whether a segment has nothing: the answer beside an error or a false.
func isZero(s api.Segment) bool {
	return equal(s, api.Segment{})
}

// plainParse is P5.1's words for Parse, one by one, by division.
func plainParse(b []byte) (api.Segment, api.Errno) {
	if len(b) < 20 || len(b) < int(b[12])/16*4 {
		return api.Segment{}, api.ErrShort
	}
	head := int(b[12]) / 16 * 4
	if head < 20 {
		return api.Segment{}, api.ErrForm
	}
	two := func(at int) int { return int(b[at])*256 + int(b[at+1]) }
	four := func(at int) uint32 { return uint32(two(at))*65536 + uint32(two(at+2)) }
	return api.Segment{
		Src: two(0), Dst: two(2), Seq: four(4), Ack: four(8),
		Flags: int(b[13]) % 64, Win: two(14), Urg: two(18),
		Options: slices.Clone(b[20:head]), Data: slices.Clone(b[head:]),
	}, api.OK
}

// plainBuild is P5.1's words for Build of a segment that may be, by division.
func plainBuild(src, dst uint32, s api.Segment) []byte {
	b := make([]byte, 20, 20+len(s.Options)+len(s.Data))
	two := func(at, n int) { b[at], b[at+1] = byte(n/256), byte(n%256) }
	four := func(at int, n uint32) {
		two(at, int(n/65536))
		two(at+2, int(n%65536))
	}
	two(0, s.Src)
	two(2, s.Dst)
	four(4, s.Seq)
	four(8, s.Ack)
	b[12] = byte((20 + len(s.Options)) / 4 * 16)
	b[13] = byte(s.Flags)
	two(14, s.Win)
	two(18, s.Urg)
	return summed(src, dst, append(append(b, s.Options...), s.Data...))
}

// plainReset is P5.2's words, with flags by division and sums of 64 bits.
func plainReset(s api.Segment) (api.Segment, bool) {
	bit := func(flag int) int { return s.Flags / flag % 2 }
	if bit(4) == 1 {
		return api.Segment{}, false
	}
	if bit(16) == 1 {
		return api.Segment{Src: s.Dst, Dst: s.Src, Seq: s.Ack, Flags: 4}, true
	}
	ack := (uint64(s.Seq) + uint64(len(s.Data)) + uint64(bit(2)) + uint64(bit(1))) % (1 << 32)
	return api.Segment{Src: s.Dst, Dst: s.Src, Ack: uint32(ack), Flags: 4 + 16}, true
}

// checkParse holds Parse against the plain one.
func checkParse(t *testing.T, b []byte) {
	t.Helper()
	want, wantErr := plainParse(b)
	if got, e := Parse(b); e != wantErr || !equal(got, want) {
		t.Fatalf("Parse(% x): %+v, %v, want %+v, %v", b, got, e, want, wantErr)
	}
}

// checkReset holds Reset against the plain one, for flags of 0 to 63.
func checkReset(t *testing.T, s api.Segment) {
	t.Helper()
	want, wantOK := plainReset(s)
	if got, ok := Reset(s); ok != wantOK || !equal(got, want) {
		t.Fatalf("Reset(%+v): %+v, %v, want %+v, %v", s, got, ok, want, wantOK)
	}
}

// someBytes are n bytes that hang on r alone.
func someBytes(r *rand.Rand, n int) []byte {
	b := make([]byte, n)
	for i := range b {
		b[i] = byte(r.Intn(256))
	}
	return b
}

// someSegment is one that Build takes.
func someSegment(r *rand.Rand) api.Segment {
	return api.Segment{
		Src: r.Intn(65536), Dst: r.Intn(65536), Seq: r.Uint32(), Ack: r.Uint32(),
		Flags: r.Intn(64), Win: r.Intn(65536), Urg: r.Intn(65536),
		Options: someBytes(r, 4*r.Intn(11)), Data: someBytes(r, r.Intn(40)),
	}
}

// P5.1: a segment is read field by field.
func TestParse(t *testing.T) {
	if got, e := Parse(sampleBytes()); e != api.OK || !equal(got, sample()) {
		t.Errorf("%+v, %v", got, e)
	}
}

// P5.1: each error at its edges, what is just within them, and, where a wrong
// header meets too few bytes, the one that is named first.
func TestParseErrors(t *testing.T) {
	b := sampleBytes()
	bare := changed(b, 12, 0x50)[:20]
	for _, x := range []struct {
		name string
		b    []byte
		want api.Errno
	}{
		{"nil", nil, api.ErrShort},
		{"empty", []byte{}, api.ErrShort},
		{"one byte", []byte{0x50}, api.ErrShort},
		{"12 bytes", bare[:12], api.ErrShort},
		{"13 bytes", bare[:13], api.ErrShort},
		{"19 bytes", bare[:19], api.ErrShort},
		{"19 bytes, a header of none", changed(bare, 12, 0)[:19], api.ErrShort},
		{"19 bytes, a header of 16", changed(bare, 12, 0x40)[:19], api.ErrShort},
		{"16 bytes, a header of 16", changed(bare, 12, 0x40)[:16], api.ErrShort},
		{"20 bytes", bare, api.OK},
		{"20 bytes, a header of none", changed(bare, 12, 0), api.ErrForm},
		{"20 bytes, a header of 4", changed(bare, 12, 0x10), api.ErrForm},
		{"20 bytes, a header of 16", changed(bare, 12, 0x40), api.ErrForm},
		{"20 bytes, a header of 24", changed(bare, 12, 0x60), api.ErrShort},
		{"20 bytes, a header of 60", changed(bare, 12, 0xf0), api.ErrShort},
		{"data, a header of none", changed(b, 12, 0), api.ErrForm},
		{"data, a header of 16", changed(b, 12, 0x40), api.ErrForm},
		{"data, a header of 16 and a lower half", changed(b, 12, 0x4f), api.ErrForm},
		{"data, a header of 20", changed(b, 12, 0x50), api.OK},
		{"fewer than the header by one", b[:27], api.ErrShort},
		{"the header alone", b[:28], api.OK},
		{"the header and one byte", b[:29], api.OK},
		{"33 bytes, a header of 32", changed(b, 12, 0x80), api.OK},
		{"33 bytes, a header of 36", changed(b, 12, 0x90), api.ErrShort},
		{"59 bytes, a header of 60", append(changed(b, 12, 0xf0), make([]byte, 26)...), api.ErrShort},
		{"60 bytes, a header of 60", append(changed(b, 12, 0xf0), make([]byte, 27)...), api.OK},
	} {
		s, e := Parse(x.b)
		if e != x.want || e != api.OK && !isZero(s) {
			t.Errorf("%s: %+v, %v, want %v", x.name, s, e, x.want)
		}
	}
}

// P5.1: every byte 12, at every length from none on: options of every length too.
func TestParseEveryHeaderAndLength(t *testing.T) {
	long := someBytes(rand.New(rand.NewSource(1)), 70)
	for n := range 256 {
		long[12] = byte(n)
		for size := range len(long) + 1 {
			checkParse(t, long[:size])
		}
	}
}

// P5.1: each number of a header is read from its own bytes, the highest first,
// at both of its ends too, and none other.
func TestParseFields(t *testing.T) {
	for _, x := range []struct {
		name     string
		at, size int
		of       func(s *api.Segment) uint32
	}{
		{"Src", 0, 2, func(s *api.Segment) uint32 { return uint32(s.Src) }},
		{"Dst", 2, 2, func(s *api.Segment) uint32 { return uint32(s.Dst) }},
		{"Seq", 4, 4, func(s *api.Segment) uint32 { return s.Seq }},
		{"Ack", 8, 4, func(s *api.Segment) uint32 { return s.Ack }},
		{"Win", 14, 2, func(s *api.Segment) uint32 { return uint32(s.Win) }},
		{"Urg", 18, 2, func(s *api.Segment) uint32 { return uint32(s.Urg) }},
	} {
		most := uint32(1<<(8*x.size) - 1)
		for _, n := range []uint32{0, 1, 2, 0xff, 0x100, 0x0102, 0x01020304 & most, most / 2, most/2 + 1, most - 1, most} {
			for _, fill := range []byte{0, 0xff} {
				b := bytes.Repeat([]byte{fill}, 20)
				b[12] = 0x50
				for i := range x.size {
					b[x.at+i] = byte(n >> (8 * (x.size - 1 - i)))
				}
				s, e := Parse(b)
				if e != api.OK || x.of(&s) != n {
					t.Errorf("%s %d: %+v, %v", x.name, n, s, e)
				}
				checkParse(t, b)
			}
		}
	}
}

// P5.1: Flags are the lower six bits of byte 13 alone: neither its upper two
// nor the lower half of byte 12 shows anywhere.
func TestParseFlags(t *testing.T) {
	for low := range 16 {
		for n := range 256 {
			want := sample()
			want.Flags = n % 64
			if s, e := Parse(changed(sampleBytes(), 12, 0x70+low, 13, n)); e != api.OK || !equal(s, want) {
				t.Errorf("%d, %d: %+v, %v", low, n, s, e)
			}
		}
	}
	for _, x := range []struct{ bits, want int }{
		{1, api.FlagFin}, {2, api.FlagSyn}, {4, api.FlagRst}, {8, api.FlagPsh}, {16, api.FlagAck}, {32, api.FlagUrg},
		{64, 0}, {128, 0}, {255, 63}, {0, 0},
	} {
		if s, e := Parse(changed(sampleBytes(), 13, x.bits)); e != api.OK || s.Flags != x.want {
			t.Errorf("%d: %+v, %v", x.bits, s, e)
		}
	}
}

// P5.1: whatever the checksum is, it is not looked at, and shows nowhere.
func TestParseEveryChecksum(t *testing.T) {
	b := sampleBytes()
	for n := range 65536 {
		b[16], b[17] = byte(n>>8), byte(n)
		if s, e := Parse(b); e != api.OK || !equal(s, sample()) {
			t.Fatalf("%#x: %+v, %v", n, s, e)
		}
	}
}

// P5.1: every value of every byte.
func TestParseEveryByte(t *testing.T) {
	b := sampleBytes()
	for at := range b {
		for n := range 256 {
			checkParse(t, changed(b, at, n))
		}
	}
}

// P5.1: options up to the header's end, data up to the end of all, of every length.
func TestParseOptionsAndData(t *testing.T) {
	r := rand.New(rand.NewSource(2))
	for options := 0; options <= 40; options += 4 {
		for _, size := range []int{0, 1, 2, 3, 4, 5, 39, 40, 41, 64980, 64981, 65535, 70000} {
			behind := someBytes(r, options+size)
			b := append(changed(sampleBytes(), 12, (20+options)*4)[:20], behind...)
			s, e := Parse(b)
			if e != api.OK || !bytes.Equal(s.Options, behind[:options]) || !bytes.Equal(s.Data, behind[options:]) {
				t.Errorf("%d, %d: %d, %d, %v", options, size, len(s.Options), len(s.Data), e)
			}
		}
	}
}

// P5.1: the spare room behind b doesn't count.
func TestParseLeavesWhatIsBehind(t *testing.T) {
	b := sampleBytes()
	for size := range len(b) + 1 {
		s, e := Parse(b[:size])
		if size < 28 {
			if e != api.ErrShort || !isZero(s) {
				t.Errorf("%d bytes: %+v, %v", size, s, e)
			}
			continue
		}
		want := sample()
		want.Data = want.Data[:size-28]
		if e != api.OK || !equal(s, want) {
			t.Errorf("%d bytes: %+v, %v", size, s, e)
		}
	}
}

// P5.1: the bytes of segments, written out.
func TestBuild(t *testing.T) {
	for _, x := range []struct {
		name     string
		src, dst uint32
		s        api.Segment
		want     []byte
	}{
		{"every field", here, there, sample(), sampleBytes()},
		{"nothing", 0, 0, api.Segment{},
			[]byte{0, 0, 0, 0, 0, 0, 0, 0, 0, 0, 0, 0, 0x50, 0, 0, 0, 0xaf, 0xe5, 0, 0}},
		{"data of one byte", 0, 0, api.Segment{Data: []byte{1}},
			[]byte{0, 0, 0, 0, 0, 0, 0, 0, 0, 0, 0, 0, 0x50, 0, 0, 0, 0xae, 0xe4, 0, 0, 1}},
		{"data of two bytes", 0, 0, api.Segment{Data: []byte{1, 2}},
			[]byte{0, 0, 0, 0, 0, 0, 0, 0, 0, 0, 0, 0, 0x50, 0, 0, 0, 0xae, 0xe1, 0, 0, 1, 2}},
		{"all ones", 0xffffffff, 0xffffffff, api.Segment{Src: 65535, Dst: 65535, Seq: 1<<32 - 1, Ack: 1<<32 - 1, Flags: 63, Win: 65535, Urg: 65535},
			[]byte{255, 255, 255, 255, 255, 255, 255, 255, 255, 255, 255, 255, 0x50, 63, 255, 255, 0xaf, 0xa6, 255, 255}},
	} {
		if b, e := Build(x.src, x.dst, x.s); e != api.OK || !bytes.Equal(b, x.want) {
			t.Errorf("%s: % x, %v, want % x", x.name, b, e, x.want)
		}
	}
}

// P5.1: the checksum is that of Pseudo of all, and all: of src and dst, each
// of their bits, the protocol and the length too.
func TestBuildChecksum(t *testing.T) {
	for _, s := range []api.Segment{sample(), {}, {Data: []byte{9}}, {Options: []byte{1, 2, 3, 4}}} {
		base, _ := Build(here, there, s)
		for bit := range 32 {
			for _, ends := range [][2]uint32{{here ^ 1<<bit, there}, {here, there ^ 1<<bit}} {
				b, e := Build(ends[0], ends[1], s)
				if e != api.OK || !bytes.Equal(b, plainBuild(ends[0], ends[1], s)) {
					t.Fatalf("%#x: % x, %v", ends, b, e)
				}
				if bytes.Equal(b[16:18], base[16:18]) || !bytes.Equal(b[:16], base[:16]) || !bytes.Equal(b[18:], base[18:]) {
					t.Fatalf("%#x: % x, beside % x", ends, b, base)
				}
				if plainSum(ends[0], ends[1], b) != 0 || plainSum(here, there, b) == 0 {
					t.Fatalf("%#x: % x is not its own", ends, b)
				}
			}
		}
	}
}

// P5.1: a checksum of every number: one that is 0 stays 0.
func TestBuildEveryChecksum(t *testing.T) {
	seen := map[int]int{}
	for win := range 65536 {
		s := api.Segment{Win: win}
		b := made(t, s)
		if !bytes.Equal(b, plainBuild(here, there, s)) {
			t.Fatalf("%d: % x", win, b)
		}
		seen[int(b[16])*256+int(b[17])]++
	}
	if seen[0] == 0 || len(seen) != 65535 {
		t.Errorf("%d checksums, %d of them 0", len(seen), seen[0])
	}
}

// numbers are the fields of a segment that have bounds, each with its greatest.
func numbers() []struct {
	name string
	most int
	of   func(s *api.Segment) *int
} {
	return []struct {
		name string
		most int
		of   func(s *api.Segment) *int
	}{
		{"Src", 65535, func(s *api.Segment) *int { return &s.Src }},
		{"Dst", 65535, func(s *api.Segment) *int { return &s.Dst }},
		{"Win", 65535, func(s *api.Segment) *int { return &s.Win }},
		{"Urg", 65535, func(s *api.Segment) *int { return &s.Urg }},
		{"Flags", 63, func(s *api.Segment) *int { return &s.Flags }},
	}
}

// P5.1: ErrArg of each number at both ends and beyond; P5.3: what is within comes back.
func TestBuildNumbers(t *testing.T) {
	for _, f := range numbers() {
		for _, n := range []int{0, 1, 2, f.most / 2, f.most - 1, f.most} {
			s := sample()
			*f.of(&s) = n
			b, e := Build(here, there, s)
			if e != api.OK || !bytes.Equal(b, plainBuild(here, there, s)) {
				t.Errorf("%s %d: % x, %v", f.name, n, b, e)
			}
			if got, e := Parse(b); e != api.OK || !equal(got, s) {
				t.Errorf("%s %d: %+v, %v", f.name, n, got, e)
			}
		}
		for _, n := range []int{-1, -2, -f.most, -f.most - 1, f.most + 1, f.most + 2, 2*f.most + 1, 1 << 16, 1 << 17, 1 << 32, math.MaxInt, math.MinInt} {
			s := sample()
			*f.of(&s) = n
			if b, e := Build(here, there, s); e != api.ErrArg || len(b) != 0 {
				t.Errorf("%s %d: % x, %v", f.name, n, b, e)
			}
		}
	}
	for _, n := range []int{64, 128, 192, 255, 256} {
		if b, e := Build(here, there, api.Segment{Flags: n}); e != api.ErrArg || len(b) != 0 {
			t.Errorf("Flags %d: % x, %v", n, b, e)
		}
	}
}

// P5.1: Seq and Ack have no bounds: both of their ends come back.
func TestBuildSeqAndAck(t *testing.T) {
	for _, n := range []uint32{0, 1, 1<<31 - 1, 1 << 31, 1<<32 - 2, 1<<32 - 1} {
		for _, s := range []api.Segment{{Seq: n}, {Ack: n}} {
			if got, e := Parse(made(t, s)); e != api.OK || !equal(got, s) {
				t.Errorf("%d: %+v, %v", n, got, e)
			}
		}
	}
}

// P5.1: every value of each number has a place of its own in the bytes.
func TestBuildEveryNumber(t *testing.T) {
	for _, f := range numbers() {
		for n := range f.most + 1 {
			s := api.Segment{}
			*f.of(&s) = n
			b := made(t, s)
			if got, e := plainParse(b); e != api.OK || !equal(got, s) || len(b) != 20 {
				t.Fatalf("%s %d: % x, %+v, %v", f.name, n, b, got, e)
			}
		}
	}
}

// P5.1: Options of every length: whole fours up to 40 bytes, else ErrArg.
func TestBuildOptions(t *testing.T) {
	r := rand.New(rand.NewSource(3))
	for size := range 130 {
		s := sample()
		s.Options = someBytes(r, size)
		b, e := Build(here, there, s)
		if size%4 != 0 || size > 40 {
			if e != api.ErrArg || len(b) != 0 {
				t.Errorf("%d: % x, %v", size, b, e)
			}
			continue
		}
		if e != api.OK || !bytes.Equal(b, plainBuild(here, there, s)) {
			t.Errorf("%d: % x, %v", size, b, e)
		}
		if got, e := Parse(b); e != api.OK || !equal(got, s) {
			t.Errorf("%d: %+v, %v", size, got, e)
		}
	}
	for _, size := range []int{64, 256, 260, 65536, 1 << 20} {
		if b, e := Build(here, there, api.Segment{Options: make([]byte, size)}); e != api.ErrArg || len(b) != 0 {
			t.Errorf("%d: %v", size, e)
		}
	}
}

// P5.1: ErrArg, if all is above 65000 bytes; of options too.
func TestBuildLong(t *testing.T) {
	for options := 0; options <= 40; options += 4 {
		room := 64980 - options
		s := api.Segment{Options: make([]byte, options)}
		for _, size := range []int{room - 1, room} {
			s.Data = make([]byte, size)
			s.Data[0], s.Data[size-1] = 8, 9
			b, e := Build(here, there, s)
			if e != api.OK || !bytes.Equal(b, plainBuild(here, there, s)) {
				t.Errorf("%d, %d: %d bytes, %v", options, size, len(b), e)
			}
			if got, e := Parse(b); e != api.OK || !equal(got, s) {
				t.Errorf("%d, %d: %v", options, size, e)
			}
		}
		for _, size := range []int{room + 1, room + 2, 65000, 65536, 65536 + room, 1 << 20} {
			s.Data = make([]byte, size)
			if b, e := Build(here, there, s); e != api.ErrArg || len(b) != 0 {
				t.Errorf("%d, %d: %d bytes, %v", options, size, len(b), e)
			}
		}
	}
}

// P5.2: resets, written out; the first is the chapter's example.
func TestReset(t *testing.T) {
	for _, x := range []struct {
		name    string
		s, want api.Segment
		ok      bool
	}{
		{"SYN, Seq 5", api.Segment{Seq: 5, Flags: api.FlagSyn},
			api.Segment{Flags: api.FlagRst | api.FlagAck, Ack: 6}, true},
		{"no flags", api.Segment{Src: 1, Dst: 2, Seq: 5},
			api.Segment{Src: 2, Dst: 1, Flags: api.FlagRst | api.FlagAck, Ack: 5}, true},
		{"FIN", api.Segment{Seq: 5, Flags: api.FlagFin},
			api.Segment{Flags: api.FlagRst | api.FlagAck, Ack: 6}, true},
		{"SYN and FIN", api.Segment{Seq: 5, Flags: api.FlagSyn | api.FlagFin},
			api.Segment{Flags: api.FlagRst | api.FlagAck, Ack: 7}, true},
		{"PSH and URG count nothing", api.Segment{Seq: 5, Flags: api.FlagPsh | api.FlagUrg},
			api.Segment{Flags: api.FlagRst | api.FlagAck, Ack: 5}, true},
		{"data", api.Segment{Seq: 5, Data: make([]byte, 10)},
			api.Segment{Flags: api.FlagRst | api.FlagAck, Ack: 15}, true},
		{"SYN, FIN and data", api.Segment{Seq: 5, Flags: api.FlagSyn | api.FlagFin, Data: make([]byte, 10)},
			api.Segment{Flags: api.FlagRst | api.FlagAck, Ack: 17}, true},
		{"options count nothing", api.Segment{Seq: 5, Options: make([]byte, 40), Flags: api.FlagSyn},
			api.Segment{Flags: api.FlagRst | api.FlagAck, Ack: 6}, true},
		{"an Ack without its flag", api.Segment{Seq: 5, Ack: 9, Flags: api.FlagSyn},
			api.Segment{Flags: api.FlagRst | api.FlagAck, Ack: 6}, true},
		{"ACK", api.Segment{Src: 1, Dst: 2, Seq: 5, Ack: 9, Flags: api.FlagAck},
			api.Segment{Src: 2, Dst: 1, Seq: 9, Flags: api.FlagRst}, true},
		{"ACK of 0", api.Segment{Seq: 5, Flags: api.FlagAck},
			api.Segment{Flags: api.FlagRst}, true},
		{"all but RST, and data", api.Segment{Seq: 5, Ack: 1<<32 - 1, Flags: 63 - api.FlagRst, Data: make([]byte, 10)},
			api.Segment{Seq: 1<<32 - 1, Flags: api.FlagRst}, true},
		{"every field", sample(),
			api.Segment{Src: 0xfedc, Dst: 0x1234, Seq: 0xf5f6f7f8, Flags: api.FlagRst}, true},
		{"RST", api.Segment{Src: 1, Dst: 2, Seq: 5, Flags: api.FlagRst}, api.Segment{}, false},
		{"RST and ACK", api.Segment{Src: 1, Dst: 2, Seq: 5, Ack: 9, Flags: api.FlagRst | api.FlagAck}, api.Segment{}, false},
		{"RST and SYN", api.Segment{Src: 1, Dst: 2, Seq: 5, Flags: api.FlagRst | api.FlagSyn}, api.Segment{}, false},
		{"all", api.Segment{Src: 1, Dst: 2, Seq: 5, Flags: 63, Data: []byte{1}}, api.Segment{}, false},
	} {
		if got, ok := Reset(x.s); ok != x.ok || !equal(got, x.want) {
			t.Errorf("%s: %+v, %v, want %+v, %v", x.name, got, ok, x.want, x.ok)
		}
	}
}

// P5.2: all flags, with Seq at its ends, where Ack goes round, and data of some lengths.
func TestResetEveryFlags(t *testing.T) {
	for flags := range 64 {
		for _, size := range []int{0, 1, 2, 3, 10, 65536} {
			for _, n := range []uint32{0, 1, 1<<31 - 1, 1 << 31, 1<<32 - 65537, 1<<32 - 4, 1<<32 - 3, 1<<32 - 2, 1<<32 - 1} {
				s := sample()
				s.Flags, s.Seq, s.Ack, s.Data = flags, n, n^0x55, make([]byte, size)
				checkReset(t, s)
			}
		}
	}
}

// P5.2: modulo 2^32, written out.
func TestResetGoesRound(t *testing.T) {
	for _, x := range []struct {
		seq   uint32
		flags int
		data  int
		want  uint32
	}{
		{1<<32 - 1, 0, 0, 1<<32 - 1},
		{1<<32 - 1, api.FlagSyn, 0, 0},
		{1<<32 - 1, api.FlagFin, 0, 0},
		{1<<32 - 1, 0, 1, 0},
		{1<<32 - 2, api.FlagSyn | api.FlagFin, 0, 0},
		{1<<32 - 1, api.FlagSyn | api.FlagFin, 3, 4},
		{1<<32 - 5, api.FlagSyn, 3, 1<<32 - 1},
		{1<<31 - 1, api.FlagSyn, 0, 1 << 31},
	} {
		got, ok := Reset(api.Segment{Seq: x.seq, Flags: x.flags, Data: make([]byte, x.data)})
		if !ok || got.Ack != x.want || got.Seq != 0 {
			t.Errorf("%+v: %+v, %v", x, got, ok)
		}
	}
}

// P5.2: flags are bits, whatever stands above them, and numbers that no
// segment has are turned round as they are.
func TestResetOfAnyNumbers(t *testing.T) {
	for flags := range 64 {
		for _, above := range []int{64, 128, 1 << 16, 1 << 32, 1 << 62, -64, math.MinInt} {
			s := sample()
			s.Flags = flags
			want, wantOK := plainReset(s)
			s.Flags = flags | above
			if got, ok := Reset(s); ok != wantOK || !equal(got, want) {
				t.Errorf("%d above %d: %+v, %v", above, flags, got, ok)
			}
		}
	}
	for _, n := range []int{-1, 65536, math.MaxInt, math.MinInt} {
		got, ok := Reset(api.Segment{Src: n, Dst: 7})
		if want := (api.Segment{Src: 7, Dst: n, Flags: api.FlagRst | api.FlagAck}); !ok || !equal(got, want) {
			t.Errorf("Src %d: %+v, %v", n, got, ok)
		}
		got, ok = Reset(api.Segment{Src: 7, Dst: n, Win: n, Urg: n})
		if want := (api.Segment{Src: n, Dst: 7, Flags: api.FlagRst | api.FlagAck}); !ok || !equal(got, want) {
			t.Errorf("Dst %d: %+v, %v", n, got, ok)
		}
	}
}

// P5.2: a reset is a segment that can be built, and is not answered itself.
func TestResetIsSent(t *testing.T) {
	for flags := range 64 {
		s := sample()
		s.Flags = flags
		back, ok := Reset(s)
		if !ok {
			continue
		}
		b := made(t, back)
		if got, e := Parse(b); e != api.OK || !equal(got, back) || len(b) != 20 {
			t.Errorf("%d: %+v, %v", flags, got, e)
		}
		if again, ok := Reset(back); ok || !isZero(again) {
			t.Errorf("%d: %+v", flags, again)
		}
	}
}

// Same is false where any one field differs, also by numbers that no segment has.
func TestSame(t *testing.T) {
	if !Same(sample(), sample()) || !Same(api.Segment{}, api.Segment{}) {
		t.Error("one is not itself")
	}
	for _, x := range []struct {
		name   string
		change func(s *api.Segment)
	}{
		{"Src", func(s *api.Segment) { s.Src++ }},
		{"Src by 65536", func(s *api.Segment) { s.Src += 65536 }},
		{"Dst", func(s *api.Segment) { s.Dst-- }},
		{"Dst by 65536", func(s *api.Segment) { s.Dst -= 65536 }},
		{"Src and Dst for one another", func(s *api.Segment) { s.Src, s.Dst = s.Dst, s.Src }},
		{"Seq", func(s *api.Segment) { s.Seq ^= 1 << 31 }},
		{"Seq by one", func(s *api.Segment) { s.Seq++ }},
		{"Ack", func(s *api.Segment) { s.Ack ^= 1 << 31 }},
		{"Ack by one", func(s *api.Segment) { s.Ack-- }},
		{"Seq and Ack for one another", func(s *api.Segment) { s.Seq, s.Ack = s.Ack, s.Seq }},
		{"Flags", func(s *api.Segment) { s.Flags ^= api.FlagUrg }},
		{"no Flags", func(s *api.Segment) { s.Flags = 0 }},
		{"Flags by 64", func(s *api.Segment) { s.Flags += 64 }},
		{"Win", func(s *api.Segment) { s.Win++ }},
		{"Win by 65536", func(s *api.Segment) { s.Win += 65536 }},
		{"Win below 0", func(s *api.Segment) { s.Win = -s.Win }},
		{"Urg", func(s *api.Segment) { s.Urg-- }},
		{"Urg by 65536", func(s *api.Segment) { s.Urg += 65536 }},
		{"Win and Urg for one another", func(s *api.Segment) { s.Win, s.Urg = s.Urg, s.Win }},
		{"an option", func(s *api.Segment) { s.Options[7]++ }},
		{"fewer options", func(s *api.Segment) { s.Options = s.Options[:7] }},
		{"more options", func(s *api.Segment) { s.Options = append(s.Options, 0) }},
		{"no options", func(s *api.Segment) { s.Options = nil }},
		{"a byte of data", func(s *api.Segment) { s.Data[0]++ }},
		{"fewer data", func(s *api.Segment) { s.Data = s.Data[:4] }},
		{"more data", func(s *api.Segment) { s.Data = append(s.Data, 0) }},
		{"no data", func(s *api.Segment) { s.Data = []byte{} }},
		{"options as data", func(s *api.Segment) { s.Options, s.Data = nil, append(s.Options, s.Data...) }},
	} {
		s := sample()
		x.change(&s)
		if Same(s, sample()) || Same(sample(), s) {
			t.Errorf("%s: the same", x.name)
		}
		if !Same(s, s) {
			t.Errorf("%s: not itself", x.name)
		}
	}
}

// W5: nil and empty are one, of Options and of Data, on either side, in Build too.
func TestNilAndEmpty(t *testing.T) {
	lists := [][]byte{nil, {}, make([]byte, 0, 9)}
	for _, a := range lists {
		for _, b := range lists {
			s, o := sample(), sample()
			s.Options, o.Options = a, b
			if !Same(s, o) || !bytes.Equal(made(t, s), made(t, o)) {
				t.Errorf("options %v, %v", a, b)
			}
			s, o = sample(), sample()
			s.Data, o.Data = a, b
			if !Same(s, o) || !bytes.Equal(made(t, s), made(t, o)) {
				t.Errorf("data %v, %v", a, b)
			}
			s.Flags, o.Flags = 0, 0
			first, _ := Reset(s)
			second, _ := Reset(o)
			if !equal(first, second) {
				t.Errorf("reset of data %v, %v", a, b)
			}
		}
	}
	s := sample()
	s.Options = append(make([]byte, 0, 90), s.Options...)
	s.Data = append(make([]byte, 0, 90), s.Data...)
	if !Same(s, sample()) {
		t.Error("spare room counts")
	}
}

// P5.3: Parse of Build is it.
func TestThereAndBack(t *testing.T) {
	r := rand.New(rand.NewSource(4))
	for range 20000 {
		s := someSegment(r)
		src, dst := r.Uint32(), r.Uint32()
		b, e := Build(src, dst, s)
		if e != api.OK || !bytes.Equal(b, plainBuild(src, dst, s)) {
			t.Fatalf("%+v: % x, %v", s, b, e)
		}
		got, e := Parse(b)
		if e != api.OK || !equal(got, s) || !Same(got, s) {
			t.Fatalf("%+v: %+v, %v", s, got, e)
		}
		checkReset(t, s)
	}
}

// W1: bytes of any kind, and segments with bytes wrong or cut off, are told as
// the promise's words tell them, and none panics.
func TestAnyBytes(t *testing.T) {
	r := rand.New(rand.NewSource(5))
	for range 30000 {
		checkParse(t, someBytes(r, r.Intn(90)))
		b := plainBuild(here, there, someSegment(r))
		for range r.Intn(3) {
			b[r.Intn(len(b))] = byte(r.Intn(256))
		}
		b = append(b, someBytes(r, r.Intn(3))...)
		checkParse(t, b[:len(b)-r.Intn(3)])
	}
}

// roomy is b with spare room behind it, and the whole of its memory.
func roomy(b []byte) (list, memory []byte) {
	memory = append(slices.Clone(b), 0x51, 0x52, 0x53, 0x54, 0x55, 0x56, 0x57, 0x58)
	return memory[:len(b)], memory
}

// fill writes over a list and over the spare room behind it.
func fill(b []byte, n byte) {
	b = b[:cap(b)]
	for i := range b {
		b[i] = n
	}
}

// shows tells whether n stands in a list or in the spare room behind it.
func shows(b []byte, n byte) bool {
	return bytes.IndexByte(b[:cap(b)], n) >= 0
}

// segments are some with options, with data, with both and with neither.
func segments() []api.Segment {
	return []api.Segment{sample(), {Options: []byte{1, 2, 3, 4}}, {Data: []byte{1, 2, 3}}, {}}
}

// P5.3, W6: neither bytes nor lists of a segment are changed, nor the room behind.
func TestNothingHandedInIsChanged(t *testing.T) {
	for _, x := range [][]byte{
		sampleBytes(), sampleBytes()[:28], sampleBytes()[:27], sampleBytes()[:7], nil,
		changed(sampleBytes(), 12, 0x40), changed(sampleBytes(), 16, 0), made(t, api.Segment{}),
	} {
		b, memory := roomy(x)
		before := slices.Clone(memory)
		Parse(b)
		if !bytes.Equal(memory, before) {
			t.Errorf("% x, want % x", memory, before)
		}
	}
	for _, flags := range []int{0, api.FlagSyn, api.FlagAck, api.FlagRst, 64} {
		for _, short := range []int{0, 1} {
			s := sample()
			var options, data []byte
			s.Flags = flags
			s.Options, options = roomy(s.Options[short:])
			s.Data, data = roomy(s.Data)
			optionsBefore, dataBefore := slices.Clone(options), slices.Clone(data)
			Build(here, there, s)
			Reset(s)
			Same(s, sample())
			Same(sample(), s)
			if !bytes.Equal(options, optionsBefore) || !bytes.Equal(data, dataBefore) {
				t.Errorf("% x, % x", options, data)
			}
		}
	}
}

// P5.3, W6: writing over all that Parse answered, spare room too, changes
// neither the bytes nor its other list nor another answer.
func TestParseIsNewMemory(t *testing.T) {
	for _, s := range segments() {
		b, memory := roomy(made(t, s))
		before := slices.Clone(memory)
		first, _ := Parse(b)
		second, _ := Parse(b)
		fill(first.Options, 0xaa)
		if !bytes.Equal(first.Data, s.Data) || !equal(second, s) {
			t.Errorf("options share: %+v", first)
		}
		fill(first.Data, 0xbb)
		if shows(first.Options, 0xbb) || !equal(second, s) {
			t.Errorf("data share: %+v", first)
		}
		if !bytes.Equal(memory, before) {
			t.Errorf("what was handed in: % x, want % x", memory, before)
		}
		fill(b, 0xcc)
		if shows(second.Options, 0xcc) || shows(second.Data, 0xcc) || !equal(second, s) {
			t.Errorf("kept: %+v", second)
		}
	}
}

// P5.3, W6, W7: so with Build and what it was given.
func TestBuildIsNewMemory(t *testing.T) {
	for _, x := range segments() {
		s := x
		var options, data []byte
		s.Options, options = roomy(x.Options)
		s.Data, data = roomy(x.Data)
		optionsBefore, dataBefore := slices.Clone(options), slices.Clone(data)
		want := plainBuild(here, there, x)
		first, second := made(t, s), made(t, s)
		fill(first, 0xaa)
		if !bytes.Equal(second, want) || shows(second[len(second):], 0xaa) {
			t.Errorf("two answers share: % x", second)
		}
		if !bytes.Equal(options, optionsBefore) || !bytes.Equal(data, dataBefore) {
			t.Errorf("what was handed in: % x, % x", options, data)
		}
		fill(s.Options, 0xcc)
		fill(s.Data, 0xcc)
		if !bytes.Equal(second, want) || shows(second[len(second):], 0xcc) {
			t.Errorf("kept: % x", second)
		}
		if third := made(t, x); !bytes.Equal(third, want) {
			t.Errorf("the third: % x", third)
		}
	}
}

// P5.2, P5.3: a reset has no list that could share anything.
func TestResetHasNoLists(t *testing.T) {
	for flags := range 64 {
		s := sample()
		s.Flags = flags
		if back, _ := Reset(s); cap(back.Options) != 0 || cap(back.Data) != 0 {
			t.Errorf("%d: %+v", flags, back)
		}
	}
}

// W2: nothing is kept: the same call tells the same, whatever was called between.
func TestNothingIsKept(t *testing.T) {
	s, _ := Parse(sampleBytes())
	back, _ := Reset(s)
	Parse(nil)
	Parse(changed(sampleBytes(), 12, 0x40))
	Build(1, 2, api.Segment{Src: -1})
	Build(1, 2, api.Segment{Data: []byte{1}})
	Reset(api.Segment{Flags: api.FlagRst})
	Reset(api.Segment{Seq: 9, Flags: api.FlagSyn})
	again, e := Parse(sampleBytes())
	backAgain, ok := Reset(s)
	if e != api.OK || !equal(again, s) || !ok || !equal(backAgain, back) || !bytes.Equal(made(t, sample()), sampleBytes()) {
		t.Error("another answer")
	}
}
