package icmp

import (
	"bytes"
	"math"
	"math/rand"
	"slices"
	"testing"

	"castellan/api"
	"castellan/ip"
)

// sample is a message with a value of its own in every field.
func sample() api.Message {
	return api.Message{Type: 0x12, Code: 0x34, Rest: 0x89abcdef, Data: []byte{21, 22, 23, 24, 25}}
}

// sampleBytes are sample's, written out, with a checksum that Build has no part in.
func sampleBytes() []byte {
	return summed([]byte{0x12, 0x34, 0, 0, 0x89, 0xab, 0xcd, 0xef, 21, 22, 23, 24, 25})
}

// plainSum is the checksum of bytes, as they stand, by division.
func plainSum(b []byte) int {
	total := 0
	for i, n := range b {
		if i%2 == 0 {
			total += int(n) * 256
		} else {
			total += int(n)
		}
	}
	for total > 65535 {
		total = total/65536 + total%65536
	}
	return 65535 - total
}

// summed is b itself with its checksum anew.
func summed(b []byte) []byte {
	b[2], b[3] = 0, 0
	n := plainSum(b)
	b[2], b[3] = byte(n/256), byte(n%256)
	return b
}

// changed is a copy of b with some bytes changed: places and values in turn.
func changed(b []byte, pairs ...int) []byte {
	c := slices.Clone(b)
	for i := 0; i < len(pairs); i += 2 {
		c[pairs[i]] = byte(pairs[i+1])
	}
	return c
}

// made is a message's bytes, which must be.
func made(t *testing.T, m api.Message) []byte {
	t.Helper()
	b, e := Build(m)
	if e != api.OK {
		t.Fatalf("%+v: %v", m, e)
	}
	return b
}

// equal tells whether two messages are one, without Same.
func equal(a, b api.Message) bool {
	return a.Type == b.Type && a.Code == b.Code && a.Rest == b.Rest && string(a.Data) == string(b.Data)
}

// isZero tells whether a message has nothing: the answer beside an error.
func isZero(m api.Message) bool {
	return equal(m, api.Message{})
}

// plainParse is P7.1's words for Parse, one by one, by division.
func plainParse(b []byte) (api.Message, api.Errno) {
	if len(b) < 8 {
		return api.Message{}, api.ErrShort
	}
	if plainSum(b) != 0 {
		return api.Message{}, api.ErrSum
	}
	rest := ((uint32(b[4])*256+uint32(b[5]))*256+uint32(b[6]))*256 + uint32(b[7])
	return api.Message{Type: int(b[0]), Code: int(b[1]), Rest: rest, Data: slices.Clone(b[8:])}, api.OK
}

// plainBuild is P7.1's words for Build of a message that may be, by division.
func plainBuild(m api.Message) []byte {
	b := []byte{
		byte(m.Type), byte(m.Code), 0, 0,
		byte(m.Rest / 16777216), byte(m.Rest / 65536 % 256), byte(m.Rest / 256 % 256), byte(m.Rest % 256),
	}
	return summed(append(b, m.Data...))
}

// checkParse holds Parse against the plain one.
func checkParse(t *testing.T, b []byte) {
	t.Helper()
	want, wantErr := plainParse(b)
	if got, e := Parse(b); e != wantErr || !equal(got, want) {
		t.Fatalf("Parse(% x): %+v, %v, want %+v, %v", b, got, e, want, wantErr)
	}
}

// someBytes are n bytes that hang on r alone.
func someBytes(r *rand.Rand, n int) []byte {
	b := make([]byte, n)
	for i := range b {
		b[i] = byte(r.Intn(256))
	}
	return b
}

// someMessage is one that Build takes.
func someMessage(r *rand.Rand) api.Message {
	return api.Message{Type: r.Intn(256), Code: r.Intn(256), Rest: r.Uint32(), Data: someBytes(r, r.Intn(40))}
}

// P7.1: a message is read field by field.
func TestParse(t *testing.T) {
	for _, x := range []struct {
		name string
		b    []byte
		want api.Message
	}{
		{"every field", sampleBytes(), sample()},
		{"nothing but its checksum", []byte{0, 0, 255, 255, 0, 0, 0, 0}, api.Message{}},
		{"no checksum", []byte{255, 255, 0, 0, 0, 0, 0, 0}, api.Message{Type: 255, Code: 255}},
		{"a question", []byte{8, 0, 0xf7, 0xfd, 0, 1, 0, 1}, api.Message{Type: 8, Rest: 0x10001}},
		{"all ones", bytes.Repeat([]byte{255}, 8), api.Message{Type: 255, Code: 255, Rest: math.MaxUint32}},
		{"data of one byte", []byte{0, 0, 0xfe, 255, 0, 0, 0, 0, 1}, api.Message{Data: []byte{1}}},
		{"data of two bytes", []byte{0, 0, 0xfe, 0xfd, 0, 0, 0, 0, 1, 2}, api.Message{Data: []byte{1, 2}}},
	} {
		if got, e := Parse(x.b); e != api.OK || !equal(got, x.want) {
			t.Errorf("%s: %+v, %v", x.name, got, e)
		}
		checkParse(t, x.b)
	}
}

// P7.1: each error at its edges, what is just within them, and, where too few
// bytes meet a wrong checksum, the one that is named first.
func TestParseErrors(t *testing.T) {
	b := sampleBytes()
	bare := []byte{255, 255, 0, 0, 0, 0, 0, 0}
	for _, x := range []struct {
		name string
		b    []byte
		want api.Errno
	}{
		{"nil", nil, api.ErrShort},
		{"empty", []byte{}, api.ErrShort},
		{"empty with room behind", b[:0], api.ErrShort},
		{"one byte", b[:1], api.ErrShort},
		{"two bytes that are Right", bare[:2], api.ErrShort},
		{"four bytes that are Right", bare[:4], api.ErrShort},
		{"7 bytes that are Right", bare[:7], api.ErrShort},
		{"7 bytes that are not", b[:7], api.ErrShort},
		{"7 noughts", make([]byte, 7), api.ErrShort},
		{"8 bytes that are Right", bare, api.OK},
		{"8 noughts", make([]byte, 8), api.ErrSum},
		{"8 bytes that are not", b[:8], api.ErrSum},
		{"9 bytes that are not", b[:9], api.ErrSum},
		{"the last byte missing", b[:12], api.ErrSum},
		{"all of it", b, api.OK},
		{"a nought more", append(slices.Clone(b), 0), api.OK},
		{"one byte more", append(slices.Clone(b), 1), api.ErrSum},
		{"behind an even one two noughts more", append(slices.Clone(bare), 0, 0), api.OK},
		{"behind an even one two ones more", append(slices.Clone(bare), 255, 255), api.OK},
		{"a checksum of one more", changed(b, 3, int(b[3])+1), api.ErrSum},
		{"a checksum of one less", changed(b, 3, int(b[3])-1), api.ErrSum},
		{"a checksum of its bytes turned", changed(b, 2, int(b[3]), 3, int(b[2])), api.ErrSum},
		{"no checksum", changed(b, 2, 0, 3, 0), api.ErrSum},
		{"70000 noughts", make([]byte, 70000), api.ErrSum},
		{"70000 bytes that are Right", summed(make([]byte, 70000)), api.OK},
		{"70001 bytes that are Right", summed(bytes.Repeat([]byte{255}, 70001)), api.OK},
	} {
		m, e := Parse(x.b)
		if e != x.want || e != api.OK && !isZero(m) {
			t.Errorf("%s: %+v, %v, want %v", x.name, m, e, x.want)
		}
		checkParse(t, x.b)
	}
}

// P7.1: as many bytes as there are, with each its own checksum and with another.
func TestParseEveryLength(t *testing.T) {
	b := someBytes(rand.New(rand.NewSource(1)), 300)
	for size := range len(b) + 1 {
		checkParse(t, b[:size])
		if size < 8 {
			continue
		}
		own := summed(slices.Clone(b[:size]))
		m, e := Parse(own)
		if e != api.OK || m.Type != int(b[0]) || !bytes.Equal(m.Data, b[8:size]) {
			t.Fatalf("%d: %+v, %v", size, m, e)
		}
		for _, wrong := range []int{1, 2, 128, 255} {
			m, e := Parse(changed(own, 3, int(own[3])+wrong))
			if e != api.ErrSum || !isZero(m) {
				t.Fatalf("%d, a checksum off by %d: %+v, %v", size, wrong, m, e)
			}
		}
	}
}

// P7.1: what is behind the end, in the spare room, is neither summed nor told.
func TestParseLeavesWhatIsBehind(t *testing.T) {
	r := rand.New(rand.NewSource(2))
	for _, size := range []int{0, 1, 2, 5, 255, 256, 64999, 65000, 65001, 65527} {
		want := sample()
		want.Data = someBytes(r, size)
		b := append(plainBuild(want), 0x51, 0x52, 0x53)
		if m, e := Parse(b[: 8+size : 8+size]); e != api.OK || !equal(m, want) {
			t.Errorf("%d: %d bytes, %v", size, len(m.Data), e)
		}
		if m, e := Parse(b[:8+size]); e != api.OK || !equal(m, want) {
			t.Errorf("%d with spare room: %d bytes, %v", size, len(m.Data), e)
		}
	}
}

// P7.1: of all checksums one alone is right, but that 0 and 65535 stand for one
// another, and it shows nowhere.
func TestParseEveryChecksum(t *testing.T) {
	for _, x := range []struct {
		b     []byte
		right int
	}{
		{sampleBytes(), 1},
		{[]byte{8, 0, 0, 0, 0, 1, 0, 1}, 1},
		{[]byte{0, 0, 0, 0, 0, 0, 0, 0, 7}, 1},
		{[]byte{255, 255, 0, 0, 0, 0, 0, 0}, 2},
		{make([]byte, 8), 1},
	} {
		right := 0
		for n := range 65536 {
			b := changed(x.b, 2, n/256, 3, n%256)
			checkParse(t, b)
			if m, e := Parse(b); e == api.OK {
				right++
				if m.Type != int(b[0]) || m.Code != int(b[1]) || !bytes.Equal(m.Data, b[8:]) {
					t.Fatalf("%#x: %+v", n, m)
				}
			}
		}
		if right != x.right {
			t.Errorf("% x: %d are right", x.b, right)
		}
	}
}

// P7.1: every value of every byte, with the checksum as it was and made anew.
func TestParseEveryByte(t *testing.T) {
	for _, b := range [][]byte{sampleBytes(), sampleBytes()[:12], make([]byte, 8)} {
		for at := range b {
			for n := range 256 {
				checkParse(t, changed(b, at, n))
				checkParse(t, summed(changed(b, at, n)))
			}
		}
	}
}

// P7.1: each field is read from its own bytes, the highest first, at both of
// its ends too, and none other.
func TestParseFields(t *testing.T) {
	for _, fill := range []int{0, 0xff} {
		b := bytes.Repeat([]byte{byte(fill)}, 8)
		want, _ := plainParse(summed(slices.Clone(b)))
		for n := range 256 {
			m := want
			m.Type = n
			if got, e := Parse(summed(changed(b, 0, n))); e != api.OK || !equal(got, m) {
				t.Fatalf("Type %d: %+v, %v", n, got, e)
			}
			m = want
			m.Code = n
			if got, e := Parse(summed(changed(b, 1, n))); e != api.OK || !equal(got, m) {
				t.Fatalf("Code %d: %+v, %v", n, got, e)
			}
			for at := range 4 {
				m = want
				shift := 24 - 8*at
				m.Rest = want.Rest&^(0xff<<shift) | uint32(n)<<shift
				if got, e := Parse(summed(changed(b, 4+at, n))); e != api.OK || !equal(got, m) {
					t.Fatalf("Rest %#x: %+v, %v", m.Rest, got, e)
				}
			}
		}
	}
}

// P7.1: the bytes of messages, written out, of an odd and an even number.
func TestBuild(t *testing.T) {
	for _, x := range []struct {
		name string
		m    api.Message
		want []byte
	}{
		{"nothing", api.Message{}, []byte{0, 0, 255, 255, 0, 0, 0, 0}},
		{"a type", api.Message{Type: 8}, []byte{8, 0, 0xf7, 255, 0, 0, 0, 0}},
		{"a code", api.Message{Code: 8}, []byte{0, 8, 255, 0xf7, 0, 0, 0, 0}},
		{"a rest", api.Message{Rest: 0x01020304}, []byte{0, 0, 0xfb, 0xf9, 1, 2, 3, 4}},
		{"data of one byte", api.Message{Data: []byte{1}}, []byte{0, 0, 0xfe, 255, 0, 0, 0, 0, 1}},
		{"data of two bytes", api.Message{Data: []byte{1, 2}}, []byte{0, 0, 0xfe, 0xfd, 0, 0, 0, 0, 1, 2}},
		{"data of three bytes", api.Message{Type: 8, Code: 1, Rest: 0x01020304, Data: []byte{7, 8, 9}},
			[]byte{8, 1, 0xe3, 0xf0, 1, 2, 3, 4, 7, 8, 9}},
		{"a checksum of 0", api.Message{Type: 255, Code: 255}, []byte{255, 255, 0, 0, 0, 0, 0, 0}},
		{"a checksum of 1", api.Message{Type: 255, Code: 254}, []byte{255, 254, 0, 1, 0, 0, 0, 0}},
		{"all ones", api.Message{Type: 255, Code: 255, Rest: math.MaxUint32, Data: []byte{255, 255}},
			[]byte{255, 255, 0, 0, 255, 255, 255, 255, 255, 255}},
		{"every field", sample(), sampleBytes()},
	} {
		b, e := Build(x.m)
		if e != api.OK || !bytes.Equal(b, x.want) {
			t.Errorf("%s: % x, %v, want % x", x.name, b, e, x.want)
		}
		if plainSum(b) != 0 || !bytes.Equal(plainBuild(x.m), x.want) {
			t.Errorf("%s: % x is not right", x.name, b)
		}
	}
}

// P7.1: the checksum is that of all: of each bit of each field and of the data.
func TestBuildChecksum(t *testing.T) {
	for _, size := range []int{0, 1, 2, 3, 4, 5, 9, 10} {
		m := sample()
		m.Data = someBytes(rand.New(rand.NewSource(3)), size)
		base := made(t, m)
		for bit := range 8 * len(base) {
			if bit/16 == 1 {
				continue
			}
			want := slices.Clone(base)
			want[bit/8] ^= 1 << (bit % 8)
			other, _ := plainParse(summed(want))
			b, e := Build(other)
			if e != api.OK || !bytes.Equal(b, want) || plainSum(b) != 0 || bytes.Equal(b[2:4], base[2:4]) {
				t.Fatalf("%d bytes, bit %d: % x, %v, want % x", size, bit, b, e, want)
			}
		}
	}
}

// P7.1: every number stands as a checksum: 0 too, as it is.
func TestBuildEveryChecksum(t *testing.T) {
	for _, data := range [][]byte{nil, {7}, {7, 8}} {
		seen := map[int]int{}
		for n := range 65536 {
			m := api.Message{Type: n / 256, Code: n % 256, Rest: 5, Data: data}
			b := made(t, m)
			if !bytes.Equal(b, plainBuild(m)) || plainSum(b) != 0 {
				t.Fatalf("%d: % x", n, b)
			}
			seen[int(b[2])*256+int(b[3])]++
		}
		if seen[0] == 0 || len(seen) != 65535 || seen[65535] != 0 {
			t.Errorf("%d checksums, %d of them 0, %d of them 65535", len(seen), seen[0], seen[65535])
		}
	}
}

// bounded are the fields of a message that have bounds.
func bounded() []struct {
	name string
	of   func(m *api.Message) *int
} {
	return []struct {
		name string
		of   func(m *api.Message) *int
	}{
		{"Type", func(m *api.Message) *int { return &m.Type }},
		{"Code", func(m *api.Message) *int { return &m.Code }},
	}
}

// P7.1: every value of Type and Code has a place of its own; P7.3: it comes back.
func TestBuildTypeAndCode(t *testing.T) {
	for _, f := range bounded() {
		for n := range 256 {
			for _, m := range []api.Message{sample(), {}} {
				*f.of(&m) = n
				b, e := Build(m)
				if e != api.OK || !bytes.Equal(b, plainBuild(m)) {
					t.Fatalf("%s %d: % x, %v", f.name, n, b, e)
				}
				if got, e := Parse(b); e != api.OK || !equal(got, m) {
					t.Fatalf("%s %d: %+v, %v", f.name, n, got, e)
				}
			}
		}
	}
}

// P7.1: ErrArg of Type and of Code beyond both ends, also by whole bytes.
func TestBuildBeyond(t *testing.T) {
	for _, f := range bounded() {
		for _, n := range []int{
			-1, -2, -8, -128, -255, -256, -257, -65536, 256, 257, 264, 511, 512, 65535, 65536,
			1 << 31, 1 << 32, 1<<32 + 8, -1 << 32, math.MaxInt, math.MinInt,
		} {
			for _, m := range []api.Message{sample(), {}} {
				*f.of(&m) = n
				if b, e := Build(m); e != api.ErrArg || len(b) != 0 {
					t.Errorf("%s %d: % x, %v", f.name, n, b, e)
				}
			}
		}
	}
	if b, e := Build(api.Message{Type: 256, Code: -256}); e != api.ErrArg || len(b) != 0 {
		t.Errorf("both: % x, %v", b, e)
	}
}

// P7.1: Rest has no bounds, and each of its bits a place of its own.
func TestBuildRest(t *testing.T) {
	list := []uint32{0, 1, 255, 256, 65535, 65536, 1<<31 - 1, 1 << 31, math.MaxUint32 - 1, math.MaxUint32}
	for bit := range 32 {
		list = append(list, 1<<bit, ^(1 << bit))
	}
	for _, n := range list {
		m := sample()
		m.Rest = n
		b := made(t, m)
		if !bytes.Equal(b, plainBuild(m)) {
			t.Errorf("%#x: % x", n, b)
		}
		if got, e := Parse(b); e != api.OK || !equal(got, m) {
			t.Errorf("%#x: %+v, %v", n, got, e)
		}
	}
}

// P7.1: ErrArg, if there are above 65000 bytes of data; the header isn't counted.
func TestBuildLong(t *testing.T) {
	r := rand.New(rand.NewSource(4))
	for _, size := range []int{0, 1, 2, 3, 255, 256, 64991, 64992, 64993, 64999, 65000} {
		m := sample()
		m.Data = someBytes(r, size)
		b, e := Build(m)
		if e != api.OK || len(b) != 8+size || !bytes.Equal(b, plainBuild(m)) {
			t.Errorf("%d: %d bytes, %v", size, len(b), e)
		}
		if got, e := Parse(b); e != api.OK || !equal(got, m) {
			t.Errorf("%d: %v", size, e)
		}
	}
	for _, size := range []int{65001, 65002, 65507, 65508, 65535, 65536, 65537, 1 << 20} {
		for _, n := range []int{0, 8, 255, -1, 256} {
			m := api.Message{Type: n, Data: make([]byte, size)}
			if b, e := Build(m); e != api.ErrArg || len(b) != 0 {
				t.Errorf("%d of type %d: %d bytes, %v", size, n, len(b), e)
			}
		}
	}
}

// P7.1: the types of errors, those of questions and answers, and no others.
func TestKinds(t *testing.T) {
	bad := []int{3, 4, 5, 11, 12}
	query := []int{0, 8, 13, 14}
	list := []int{math.MinInt, math.MinInt + 1, math.MaxInt - 1, math.MaxInt}
	for n := -1000; n <= 1000; n++ {
		list = append(list, n)
	}
	for _, n := range slices.Concat(bad, query) {
		for _, whole := range []int{1 << 8, 1 << 16, 1 << 31, 1 << 32, 1 << 62} {
			list = append(list, n+whole, n-whole)
		}
		list = append(list, -n, ^n, n+math.MinInt, math.MaxInt-n)
	}
	for _, n := range list {
		if got, want := Bad(n), slices.Contains(bad, n); got != want {
			t.Errorf("Bad(%d): %v", n, got)
		}
		if got, want := Query(n), slices.Contains(query, n); got != want {
			t.Errorf("Query(%d): %v", n, got)
		}
	}
}

// packet is a packet's bytes, with as many bytes of options and of data.
func packet(t *testing.T, options, data int) []byte {
	t.Helper()
	r := rand.New(rand.NewSource(int64(options*1000 + data)))
	b, e := ip.Build(api.IP{
		TTL: 64, Proto: api.UDP, Src: 0x0a0b0c0d, Dst: 0xf1e2d3c4,
		Options: someBytes(r, options), Data: someBytes(r, data),
	})
	if e != api.OK {
		t.Fatalf("%d, %d: %v", options, data, e)
	}
	return b
}

// P7.2: the chapter's example.
func TestQuoteExample(t *testing.T) {
	b := packet(t, 0, 100)
	if len(b) != 120 {
		t.Fatal(len(b))
	}
	if q := Quote(b); len(q) != 28 || !bytes.Equal(q, b[:28]) {
		t.Errorf("% x", q)
	}
}

// P7.2: a packet's header, with and without options, and eight bytes more, or
// as many as there are.
func TestQuotePackets(t *testing.T) {
	for options := 0; options <= 40; options += 4 {
		for _, data := range []int{0, 1, 2, 6, 7, 8, 9, 10, 40, 1000, 65000} {
			b := packet(t, options, data)
			want := 20 + options + min(data, 8)
			if q := Quote(b); len(q) != want || !bytes.Equal(q, b[:want]) {
				t.Errorf("%d bytes of options, %d of data: %d, want %d", options, data, len(q), want)
			}
		}
	}
}

// P7.2: of every first byte, and of bytes of every length up to beyond what may
// be quoted: also of those that are no packet, whatever stands behind the first.
func TestQuoteEveryFirstByte(t *testing.T) {
	b := someBytes(rand.New(rand.NewSource(5)), 90)
	for first := range 256 {
		b[0] = byte(first)
		for size := range len(b) + 1 {
			want := min(first%16*4+8, size)
			if q := Quote(b[:size]); len(q) != want || !bytes.Equal(q, b[:want]) {
				t.Fatalf("%#x of %d bytes: %d, want %d", first, size, len(q), want)
			}
		}
	}
}

// P7.2: by its header alone: nothing else of a packet is looked at, neither its
// length nor its checksum.
func TestQuoteAsksTheHeaderAlone(t *testing.T) {
	b := packet(t, 4, 50)
	for at := 1; at < len(b); at++ {
		for _, n := range []int{0, 1, 20, 24, 127, 128, 255} {
			c := changed(b, at, n)
			if q := Quote(c); !bytes.Equal(q, c[:32]) {
				t.Errorf("%d at %d: % x", n, at, q)
			}
		}
	}
	if q := Quote(append(slices.Clone(b[:25]), bytes.Repeat([]byte{9}, 70000)...)); len(q) != 32 {
		t.Errorf("bytes behind all: %d", len(q))
	}
}

// P7.2: of nothing at all nothing, and of what is cut short no more than there
// is, though the spare room has more.
func TestQuoteOfFew(t *testing.T) {
	for _, b := range [][]byte{nil, {}, packet(t, 0, 9)[:0]} {
		if q := Quote(b); len(q) != 0 {
			t.Errorf("% x", q)
		}
	}
	for _, b := range [][]byte{{0}, {0x40}, {0x45}, {0x4f}, {0xff}, {0x45, 1}} {
		if q := Quote(b); !bytes.Equal(q, b) {
			t.Errorf("% x: % x", b, q)
		}
	}
	b := packet(t, 0, 9)
	for size := range 29 {
		if q := Quote(b[:size]); !bytes.Equal(q, b[:size]) {
			t.Errorf("%d: % x", size, q)
		}
	}
}

// Same is false where any one field differs, also by numbers that no message has.
func TestSame(t *testing.T) {
	if !Same(sample(), sample()) || !Same(api.Message{}, api.Message{}) {
		t.Error("one is not itself")
	}
	for _, x := range []struct {
		name   string
		change func(m *api.Message)
	}{
		{"Type", func(m *api.Message) { m.Type++ }},
		{"Type by 256", func(m *api.Message) { m.Type += 256 }},
		{"Type below 0", func(m *api.Message) { m.Type = -m.Type }},
		{"Code", func(m *api.Message) { m.Code-- }},
		{"Code by 256", func(m *api.Message) { m.Code -= 256 }},
		{"Code below 0", func(m *api.Message) { m.Code = -m.Code }},
		{"Type and Code for one another", func(m *api.Message) { m.Type, m.Code = m.Code, m.Type }},
		{"Rest", func(m *api.Message) { m.Rest++ }},
		{"Rest by 65536", func(m *api.Message) { m.Rest += 65536 }},
		{"the highest bit of Rest", func(m *api.Message) { m.Rest ^= 1 << 31 }},
		{"no Rest", func(m *api.Message) { m.Rest = 0 }},
		{"the first byte of data", func(m *api.Message) { m.Data[0]++ }},
		{"the last byte of data", func(m *api.Message) { m.Data[4]++ }},
		{"fewer data", func(m *api.Message) { m.Data = m.Data[:4] }},
		{"data from the second on", func(m *api.Message) { m.Data = m.Data[1:] }},
		{"more data", func(m *api.Message) { m.Data = append(m.Data, 0) }},
		{"no data", func(m *api.Message) { m.Data = nil }},
		{"empty data", func(m *api.Message) { m.Data = []byte{} }},
	} {
		m := sample()
		x.change(&m)
		if Same(m, sample()) || Same(sample(), m) {
			t.Errorf("%s: the same", x.name)
		}
		if !Same(m, m) {
			t.Errorf("%s: not itself", x.name)
		}
	}
}

// W5: nil and empty data are one, on either side, in Build too; spare room counts nothing.
func TestNilAndEmpty(t *testing.T) {
	lists := [][]byte{nil, {}, make([]byte, 0, 9), sample().Data[:0]}
	for _, a := range lists {
		for _, b := range lists {
			m, o := sample(), sample()
			m.Data, o.Data = a, b
			if !Same(m, o) || !bytes.Equal(made(t, m), made(t, o)) {
				t.Errorf("%v, %v", a, b)
			}
		}
	}
	m := sample()
	m.Data = append(make([]byte, 0, 90), m.Data...)
	if !Same(m, sample()) || !Same(sample(), m) || !bytes.Equal(made(t, m), sampleBytes()) {
		t.Error("spare room counts")
	}
}

// P7.3: Parse of Build is it.
func TestThereAndBack(t *testing.T) {
	r := rand.New(rand.NewSource(6))
	for range 20000 {
		m := someMessage(r)
		b, e := Build(m)
		if e != api.OK || !bytes.Equal(b, plainBuild(m)) {
			t.Fatalf("%+v: % x, %v", m, b, e)
		}
		got, e := Parse(b)
		if e != api.OK || !equal(got, m) || !Same(got, m) {
			t.Fatalf("%+v: %+v, %v", m, got, e)
		}
	}
}

// W1: bytes of any kind, and messages with bytes wrong or cut off, are told as
// the promises' words tell them, and none panics.
func TestAnyBytes(t *testing.T) {
	r := rand.New(rand.NewSource(7))
	for range 30000 {
		b := someBytes(r, r.Intn(90))
		checkParse(t, b)
		if q := Quote(b); !bytes.HasPrefix(b, q) || len(q) > 68 {
			t.Fatalf("% x: % x", b, q)
		}
		b = plainBuild(someMessage(r))
		for range r.Intn(3) {
			b[r.Intn(len(b))] = byte(r.Intn(256))
		}
		b = append(b, someBytes(r, r.Intn(3))...)
		checkParse(t, b[:len(b)-r.Intn(3)])
	}
}

// roomy is b with spare room behind it, and the whole of its memory.
func roomy(b []byte) (list, memory []byte) {
	memory = append(slices.Clone(b), 0x51, 0x52, 0x53, 0x54, 0x55, 0x56, 0x57, 0x58)
	return memory[:len(b)], memory
}

// fill writes over a list and over the spare room behind it.
func fill(b []byte, n byte) {
	b = b[:cap(b)]
	for i := range b {
		b[i] = n
	}
}

// shows tells whether n stands in a list or in the spare room behind it.
func shows(b []byte, n byte) bool {
	return bytes.IndexByte(b[:cap(b)], n) >= 0
}

// messages are some with data of one, of some and of many bytes, and with none.
func messages() []api.Message {
	return []api.Message{sample(), {Data: []byte{1}}, {Type: 3, Data: bytes.Repeat([]byte{7}, 1000)}, {}}
}

// P7.3, W6: neither bytes nor the data of a message are changed, nor the room
// behind, whether it errs or not.
func TestNothingHandedInIsChanged(t *testing.T) {
	b := sampleBytes()
	for _, x := range [][]byte{
		b, b[:12], b[:8], b[:7], nil, changed(b, 2, 0, 3, 0), packet(t, 0, 100), packet(t, 40, 3), {0x45}, {0x4f, 1},
	} {
		list, memory := roomy(x)
		before := slices.Clone(memory)
		Parse(list)
		Quote(list)
		if !bytes.Equal(memory, before) {
			t.Errorf("% x, want % x", memory, before)
		}
	}
	for _, x := range append(messages(), api.Message{Type: -1, Data: []byte{1}}, api.Message{Data: make([]byte, 65001)}) {
		var memory []byte
		m := x
		m.Data, memory = roomy(x.Data)
		before := slices.Clone(memory)
		Build(m)
		Same(m, sample())
		Same(sample(), m)
		Same(m, m)
		if !bytes.Equal(memory, before) {
			t.Errorf("%d bytes of type %d: % x", len(m.Data), m.Type, memory)
		}
	}
}

// P7.3, W6, W7: writing over all that Parse answered, spare room too, changes
// neither the bytes nor another answer; nor does writing over the bytes.
func TestParseIsNewMemory(t *testing.T) {
	for _, m := range messages() {
		b, memory := roomy(made(t, m))
		before := slices.Clone(memory)
		first, _ := Parse(b)
		second, _ := Parse(b)
		fill(first.Data, 0xaa)
		if shows(second.Data, 0xaa) || !equal(second, m) {
			t.Errorf("two answers share: %+v", second)
		}
		if !bytes.Equal(memory, before) {
			t.Errorf("what was handed in: % x, want % x", memory, before)
		}
		fill(b, 0xcc)
		if shows(second.Data, 0xcc) || !equal(second, m) {
			t.Errorf("kept: %+v", second)
		}
	}
}

// P7.3, W6, W7: so with Build and what it was given.
func TestBuildIsNewMemory(t *testing.T) {
	for _, x := range messages() {
		m := x
		var memory []byte
		m.Data, memory = roomy(x.Data)
		before := slices.Clone(memory)
		want := plainBuild(x)
		first, second := made(t, m), made(t, m)
		fill(first, 0xaa)
		if !bytes.Equal(second, want) || shows(second[len(second):], 0xaa) {
			t.Errorf("two answers share: % x", second)
		}
		if !bytes.Equal(memory, before) {
			t.Errorf("what was handed in: % x", memory)
		}
		fill(m.Data, 0xcc)
		if !bytes.Equal(second, want) || shows(second[len(second):], 0xcc) {
			t.Errorf("kept: % x", second)
		}
		if third := made(t, x); !bytes.Equal(third, want) {
			t.Errorf("the third: % x", third)
		}
	}
}

// P7.3, W6, W7: so with Quote: also where it is all that there is.
func TestQuoteIsNewMemory(t *testing.T) {
	for _, x := range [][]byte{packet(t, 0, 100), packet(t, 40, 8), packet(t, 0, 3), {0x45, 1, 2}, {0x40}, {}} {
		b, memory := roomy(x)
		before := slices.Clone(memory)
		want := x[:min(len(x), ip.Header(x)+8)]
		first, second := Quote(b), Quote(b)
		fill(first, 0xaa)
		if !bytes.Equal(second, want) || shows(second[len(second):], 0xaa) {
			t.Errorf("two answers share: % x", second)
		}
		if !bytes.Equal(memory, before) {
			t.Errorf("what was handed in: % x, want % x", memory, before)
		}
		fill(b, 0xcc)
		if !bytes.Equal(second, want) || shows(second[len(second):], 0xcc) {
			t.Errorf("kept: % x", second)
		}
	}
}

// W2: nothing is kept: the same call tells the same, whatever was called between.
func TestNothingIsKept(t *testing.T) {
	m, _ := Parse(sampleBytes())
	Parse(nil)
	Parse(make([]byte, 8))
	Build(api.Message{Type: -1})
	Build(api.Message{Data: []byte{1}})
	Bad(3)
	Query(8)
	Quote(packet(t, 0, 9))
	Quote(nil)
	Same(m, api.Message{})
	again, e := Parse(sampleBytes())
	if e != api.OK || !equal(again, m) || !bytes.Equal(made(t, sample()), sampleBytes()) {
		t.Error("another answer")
	}
	if Bad(8) || Query(3) || len(Quote(packet(t, 4, 9))) != 32 {
		t.Error("another kind or quote")
	}
}
