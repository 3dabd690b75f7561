package pack

import (
	"bytes"
	"math"
	"math/rand"
	"slices"
	"testing"

	"castellan/api"
	"castellan/icmp"
	"castellan/ip"
	"castellan/tcp"
	"castellan/udp"
)

// sampleIP is a packet's header with a value of its own in every field.
func sampleIP() api.IP {
	return api.IP{
		TOS: 0x12, ID: 0x3456, DF: true, TTL: 0x9a, Src: 0x01020304, Dst: 0xf5f6f7f8,
		Options: []byte{11, 12, 13, 14, 15, 16, 17, 18},
	}
}

// carrying is sampleIP with a protocol and its data.
func carrying(proto int, data []byte) api.IP {
	p := sampleIP()
	p.Proto, p.Data = proto, data
	return p
}

// part is p, cut: Off, and whether more follow.
func part(p api.IP, off int, more bool) api.IP {
	p.Off, p.MF = off, more
	return p
}

// made is a packet's bytes, which must be.
func made(t *testing.T, p api.IP) []byte {
	t.Helper()
	b, e := ip.Build(p)
	if e != api.OK {
		t.Fatalf("%+v: %v", p, e)
	}
	return b
}

// segment is a segment's bytes.
func segment(src, dst, flags int) []byte {
	b, _ := tcp.Build(1, 2, api.Segment{
		Src: src, Dst: dst, Seq: 0x21222324, Ack: 0x31323334, Flags: flags, Win: 0x4142, Urg: 0x5152,
		Options: []byte{1, 2, 3, 4}, Data: []byte{61, 62, 63},
	})
	return b
}

// datagram is a datagram's bytes.
func datagram(src, dst int) []byte {
	b, _ := udp.Build(1, 2, api.Datagram{Src: src, Dst: dst, Data: []byte{71, 72, 73}})
	return b
}

// message is a message's bytes.
func message(kind, code int, rest uint32, data []byte) []byte {
	b, _ := icmp.Build(api.Message{Type: kind, Code: code, Rest: rest, Data: data})
	return b
}

// summed is a packet's bytes with the checksum of its header anew.
func summed(b []byte) []byte {
	b[10], b[11] = 0, 0
	total := 0
	for i := 0; i < min(int(b[0])%16*4, len(b)/2*2); i += 2 {
		total += int(b[i])*256 + int(b[i+1])
	}
	for total > 65535 {
		total = total/65536 + total%65536
	}
	b[10], b[11] = byte((65535-total)/256), byte((65535-total)%256)
	return b
}

// changed is a copy of b with some bytes changed: places and values in turn.
func changed(b []byte, pairs ...int) []byte {
	c := slices.Clone(b)
	for i := 0; i < len(pairs); i += 2 {
		c[pairs[i]] = byte(pairs[i+1])
	}
	return c
}

// equal tells whether two packets are one, without Same.
func equal(a, b api.Packet) bool {
	if (a.Inner == nil) != (b.Inner == nil) || a.Inner != nil && *a.Inner != *b.Inner {
		return false
	}
	x, y := a.IP, b.IP
	return x.TOS == y.TOS && x.ID == y.ID && x.DF == y.DF && x.MF == y.MF && x.Off == y.Off &&
		x.TTL == y.TTL && x.Proto == y.Proto && x.Src == y.Src && x.Dst == y.Dst &&
		string(x.Options) == string(y.Options) && string(x.Data) == string(y.Data) &&
		a.Class == b.Class && a.Src == b.Src && a.Dst == b.Dst &&
		a.Flags == b.Flags && a.Type == b.Type && a.Code == b.Code
}

// isZero tells whether a packet has nothing: the answer beside an error.
func isZero(p api.Packet) bool {
	return equal(p, api.Packet{})
}

// two and four are numbers in bytes, by division.
func two(b []byte, at int) int {
	return int(b[at])*256 + int(b[at+1])
}

func four(b []byte, at int) uint32 {
	return uint32(two(b, at))*65536 + uint32(two(b, at+2))
}

// isQuery tells P7.1's types of questions and answers.
func isQuery(n int) bool {
	return n == 0 || n == 8 || n == 13 || n == 14
}

// isBad tells P7.1's types of errors.
func isBad(n int) bool {
	return n == 3 || n == 4 || n == 5 || n == 11 || n == 12
}

// plainParse is P8.1's words, one by one; the errors of chapters 4 to 7 are
// asked of these.
func plainParse(b []byte) (api.Packet, api.Errno) {
	h, e := ip.Parse(b)
	if e != api.OK {
		return api.Packet{}, e
	}
	p := api.Packet{IP: h, Class: api.Whole}
	if h.MF {
		p.Class = api.First
	}
	if h.Off > 0 {
		p.Class = api.Later
		return p, api.OK
	}
	d := h.Data
	if h.Proto == 6 {
		_, e = tcp.Parse(d)
	}
	if h.Proto == 17 && !h.MF {
		_, e = udp.Parse(d)
	}
	if h.Proto == 1 && !h.MF {
		_, e = icmp.Parse(d)
	}
	if (h.Proto == 17 || h.Proto == 1) && h.MF && len(d) < 8 {
		e = api.ErrShort
	}
	if e != api.OK {
		return api.Packet{}, e
	}
	if h.Proto == 6 || h.Proto == 17 {
		p.Src, p.Dst = two(d, 0), two(d, 2)
	}
	if h.Proto == 6 {
		p.Flags = int(d[13]) % 64
	}
	if h.Proto == 1 {
		p.Type, p.Code = int(d[0]), int(d[1])
		if isQuery(p.Type) {
			p.Src, p.Dst = two(d, 4), two(d, 4)
		}
		if isBad(p.Type) {
			p.Inner = plainInner(d[8:])
		}
	}
	return p, api.OK
}

// plainInner is P8.1's words for Inner, one by one.
func plainInner(d []byte) *api.Key {
	if len(d) < 20 {
		return nil
	}
	if d[0]/16 != 4 {
		return nil
	}
	head := int(d[0]) % 16 * 4
	if head < 20 || len(d) < head || len(d) < head+8 {
		return nil
	}
	if two(d, 6)%8192 > 0 {
		return nil
	}
	k := api.Key{Proto: int(d[9]), Src: four(d, 12), Dst: four(d, 16)}
	if k.Proto == 6 || k.Proto == 17 {
		k.A, k.B = two(d, head), two(d, head+2)
	}
	if k.Proto == 1 && isQuery(int(d[head])) {
		k.A, k.B = two(d, head+4), two(d, head+4)
	}
	return &k
}

// checkParse holds Parse against the plain one.
func checkParse(t *testing.T, b []byte) {
	t.Helper()
	want, wantErr := plainParse(b)
	if got, e := Parse(b); e != wantErr || !equal(got, want) {
		t.Fatalf("Parse(% x): %+v (%+v), %v, want %+v (%+v), %v", b, got, got.Inner, e, want, want.Inner, wantErr)
	}
}

// checkIs holds Parse of h's bytes against h, its class and what else is told.
func checkIs(t *testing.T, name string, h api.IP, want api.Packet) {
	t.Helper()
	want.IP = h
	b := made(t, h)
	if got, e := Parse(b); e != api.OK || !equal(got, want) {
		t.Errorf("%s: %+v (%+v), %v", name, got, got.Inner, e)
	}
	checkParse(t, b)
}

// checkErr holds Parse of h's bytes against an error, or none.
func checkErr(t *testing.T, name string, h api.IP, want api.Errno) {
	t.Helper()
	b := made(t, h)
	if got, e := Parse(b); e != want || e != api.OK && !isZero(got) {
		t.Errorf("%s: %+v, %v, want %v", name, got, e, want)
	}
	checkParse(t, b)
}

// someBytes are n bytes that hang on r alone.
func someBytes(r *rand.Rand, n int) []byte {
	b := make([]byte, n)
	for i := range b {
		b[i] = byte(r.Intn(256))
	}
	return b
}

// P8.1, Class: the chapter's example.
func TestClassExample(t *testing.T) {
	if c := Class(api.IP{Off: 0, MF: true}); c != api.First {
		t.Error(c)
	}
}

// P8.1, Class: every Off that a packet can have, those beyond, with and without
// MF; DF and all other fields say nothing.
func TestClass(t *testing.T) {
	list := []int{-1, -2, -8192, 8192, 8193, 65536, 1 << 32, -1 << 32, math.MaxInt, math.MinInt}
	for n := range 8192 {
		list = append(list, n)
	}
	for _, off := range list {
		for _, more := range []bool{false, true} {
			want := api.Later
			if off == 0 && !more {
				want = api.Whole
			}
			if off == 0 && more {
				want = api.First
			}
			for _, p := range []api.IP{{}, {DF: true}, sampleIP(), carrying(api.ICMP, make([]byte, 9)), {Proto: -1, TTL: 999}} {
				if c := Class(part(p, off, more)); c != want {
					t.Fatalf("Off %d, MF %v: %d, want %d", off, more, c, want)
				}
			}
		}
	}
}

// P8.1, Parse: each of chapter 4's errors, ahead of what a protocol says.
func TestParsePacketErrors(t *testing.T) {
	for _, h := range []api.IP{
		carrying(api.TCP, segment(1000, 80, 2)), carrying(api.UDP, datagram(1000, 53)),
		carrying(api.ICMP, message(8, 0, 5, []byte{1, 2})), carrying(50, []byte{1, 2, 3}),
		carrying(api.TCP, []byte{1, 2, 3}), carrying(api.UDP, make([]byte, 8)), carrying(api.ICMP, make([]byte, 8)),
		part(carrying(api.TCP, segment(1000, 80, 2)), 5, true), part(carrying(api.UDP, datagram(1, 2)), 0, true),
	} {
		b := made(t, h)
		all := len(b)
		for _, x := range []struct {
			name string
			b    []byte
			want api.Errno
		}{
			{"nil", nil, api.ErrShort},
			{"empty", b[:0], api.ErrShort},
			{"19 bytes", b[:19], api.ErrShort},
			{"19 bytes, no 4 ahead", changed(b, 0, 0x57)[:19], api.ErrShort},
			{"no 4 ahead", summed(changed(b, 0, 0x57)), api.ErrForm},
			{"a header of 16", summed(changed(b, 0, 0x44)), api.ErrForm},
			{"fewer than the header", b[:27], api.ErrShort},
			{"a wrong checksum", changed(b, 11, int(b[11])+1), api.ErrSum},
			{"a wrong checksum, all too few", changed(b, 3, 1), api.ErrSum},
			{"all fewer than the header", summed(changed(b, 2, 0, 3, 27)), api.ErrForm},
			{"the highest bit of 6", summed(changed(b, 6, 0x80)), api.ErrForm},
			{"one fewer than all", b[:all-1], api.ErrShort},
			{"all one more", summed(changed(b, 2, (all+1)/256, 3, (all+1)%256)), api.ErrShort},
		} {
			if p, e := Parse(x.b); e != x.want || !isZero(p) {
				t.Errorf("%d, %s: %+v, %v, want %v", h.Proto, x.name, p, e, x.want)
			}
			checkParse(t, x.b)
		}
	}
}

// P8.1, Parse: the packet is chapter 4's, field by field, with options and without.
func TestParsePacket(t *testing.T) {
	for _, h := range []api.IP{
		sampleIP(), {}, {Proto: 50, Data: []byte{7}}, {TOS: 255, ID: 65535, DF: true, TTL: 255, Proto: 255},
		{Src: math.MaxUint32, Dst: 1 << 31, Options: make([]byte, 40), Data: make([]byte, 65475)},
	} {
		for _, off := range []int{0, 1, 8191} {
			for _, more := range []bool{false, true} {
				p := part(h, off, more)
				checkIs(t, "a packet", p, api.Packet{Class: Class(p)})
			}
		}
	}
}

// P8.1, Parse: bytes behind all do not count: neither make they a datagram
// longer, nor a message's sum another, nor a quote one that is there.
func TestParseBehindAll(t *testing.T) {
	seg, gram := segment(1000, 80, 2), datagram(1000, 53)
	about := made(t, carrying(api.UDP, gram))[:36]
	for _, h := range []api.IP{
		carrying(api.TCP, seg), carrying(api.UDP, gram), carrying(api.ICMP, message(8, 0, 0x50006, []byte{1})),
		carrying(api.TCP, seg[:19]), carrying(api.TCP, seg[:23]), carrying(api.UDP, gram[:10]), carrying(api.UDP, gram[:7]),
		carrying(api.ICMP, message(3, 0, 5, about)), carrying(api.ICMP, message(3, 0, 5, about[:35])),
		part(carrying(api.UDP, gram[:7]), 0, true), part(carrying(api.ICMP, gram[:7]), 0, true),
	} {
		b := made(t, h)
		want, wantErr := Parse(b)
		for _, behind := range [][]byte{{0}, {0, 0, 0, 0, 0, 0, 0, 0}, {255, 7, 255}, seg, bytes.Repeat([]byte{9}, 70000)} {
			if got, e := Parse(slices.Concat(b, behind)); e != wantErr || !equal(got, want) {
				t.Errorf("%+v: %+v, %v, want %v", h, got, e, wantErr)
			}
		}
	}
}

// P8.1, Later: nothing more, whatever its data are: also such as would be a
// whole protocol's, and such as would err.
func TestLater(t *testing.T) {
	full := made(t, carrying(api.UDP, datagram(1, 2)))
	for _, proto := range []int{api.TCP, api.UDP, api.ICMP, 0, 2, 50, 255} {
		for _, data := range [][]byte{
			nil, {1}, make([]byte, 7), make([]byte, 8), make([]byte, 20), segment(1000, 80, 63), segment(1000, 80, 63)[:19],
			datagram(1000, 53), datagram(1000, 53)[:9], message(8, 1, 0x12345678, nil), message(3, 1, 0, full),
			changed(message(8, 1, 0, nil), 7, 99),
		} {
			for _, off := range []int{1, 2, 255, 256, 4096, 8190, 8191} {
				for _, more := range []bool{false, true} {
					checkIs(t, "a later part", part(carrying(proto, data), off, more), api.Packet{Class: api.Later})
				}
			}
		}
	}
}

// P8.1, TCP: ports and Flags, at their ends, of a Whole and of a First one; two
// bits ahead of the flags are none.
func TestSegments(t *testing.T) {
	ports := []int{0, 1, 255, 256, 1000, 32767, 32768, 65534, 65535}
	for class, more := range []bool{false, true} {
		for _, src := range ports {
			for _, dst := range ports {
				h := part(carrying(api.TCP, segment(src, dst, 18)), 0, more)
				checkIs(t, "ports", h, api.Packet{Class: class, Src: src, Dst: dst, Flags: 18})
			}
		}
		for n := range 256 {
			h := part(carrying(api.TCP, changed(segment(7, 8, 0), 13, n)), 0, more)
			checkIs(t, "flags", h, api.Packet{Class: class, Src: 7, Dst: 8, Flags: n % 64})
		}
	}
	bare, _ := tcp.Build(1, 2, api.Segment{})
	checkIs(t, "nothing", carrying(api.TCP, bare), api.Packet{})
}

// P8.1, TCP: chapter 5's errors, each at its edges and in its order, of a Whole
// and of a First one.
func TestSegmentErrors(t *testing.T) {
	b := segment(1000, 80, 2)
	for _, more := range []bool{false, true} {
		for _, x := range []struct {
			name string
			data []byte
			want api.Errno
		}{
			{"none", nil, api.ErrShort},
			{"the ports alone", b[:4], api.ErrShort},
			{"8 bytes", b[:8], api.ErrShort},
			{"19 bytes", b[:19], api.ErrShort},
			{"19 bytes, a header of 16", changed(b, 12, 0x40)[:19], api.ErrShort},
			{"20 bytes, a header of 24", b[:20], api.ErrShort},
			{"20 bytes, a header of 20", changed(b, 12, 0x50)[:20], api.OK},
			{"23 bytes, a header of 24", b[:23], api.ErrShort},
			{"24 bytes, a header of 24", b[:24], api.OK},
			{"a header of 60", changed(b, 12, 0xf0), api.ErrShort},
			{"a header of none", changed(b, 12, 0), api.ErrForm},
			{"a header of 16", changed(b, 12, 0x4f), api.ErrForm},
			{"another checksum", changed(b, 16, 1, 17, 1), api.OK},
			{"no checksum", changed(b, 16, 0, 17, 0), api.OK},
			{"all of it", b, api.OK},
		} {
			checkErr(t, x.name, part(carrying(api.TCP, x.data), 0, more), x.want)
		}
	}
}

// P8.1, TCP: every length of its header at every length of its data.
func TestSegmentEveryLength(t *testing.T) {
	b := someBytes(rand.New(rand.NewSource(1)), 70)
	for _, more := range []bool{false, true} {
		for n := range 16 {
			for size := range len(b) + 1 {
				checkParse(t, made(t, part(carrying(api.TCP, changed(b, 12, n*16+n)[:size]), 0, more)))
			}
		}
	}
}

// P8.1, UDP: ports, at their ends, of a Whole and of a First one; no flags.
func TestDatagrams(t *testing.T) {
	ports := []int{0, 1, 255, 256, 1000, 32767, 32768, 65534, 65535}
	for class, more := range []bool{false, true} {
		for _, src := range ports {
			for _, dst := range ports {
				h := part(carrying(api.UDP, datagram(src, dst)), 0, more)
				checkIs(t, "ports", h, api.Packet{Class: class, Src: src, Dst: dst})
			}
		}
	}
	long := append(datagram(1000, 53), bytes.Repeat([]byte{255}, 20)...)
	checkIs(t, "bytes behind its length", carrying(api.UDP, long), api.Packet{Src: 1000, Dst: 53})
}

// P8.1, UDP: chapter 6's errors, each at its edges, of a Whole one; of a First
// one ErrShort alone, if there are fewer than 8 bytes, whatever its length says.
func TestDatagramErrors(t *testing.T) {
	b := datagram(1000, 53)
	for _, x := range []struct {
		name         string
		data         []byte
		whole, first api.Errno
	}{
		{"none", nil, api.ErrShort, api.ErrShort},
		{"the ports alone", b[:4], api.ErrShort, api.ErrShort},
		{"7 bytes", b[:7], api.ErrShort, api.ErrShort},
		{"7 bytes, a length of 7", changed(b, 5, 7)[:7], api.ErrShort, api.ErrShort},
		{"8 bytes, a length of 11", b[:8], api.ErrShort, api.OK},
		{"8 bytes, a length of 8", changed(b, 5, 8)[:8], api.OK, api.OK},
		{"8 bytes, a length of 9", changed(b, 5, 9)[:8], api.ErrShort, api.OK},
		{"10 bytes, a length of 11", b[:10], api.ErrShort, api.OK},
		{"11 bytes, a length of 11", b, api.OK, api.OK},
		{"11 bytes, a length of 12", changed(b, 5, 12), api.ErrShort, api.OK},
		{"a length of none", changed(b, 5, 0), api.ErrForm, api.OK},
		{"a length of 7", changed(b, 5, 7), api.ErrForm, api.OK},
		{"a length of 8", changed(b, 5, 8), api.OK, api.OK},
		{"a length of 65535", changed(b, 4, 255, 5, 255), api.ErrShort, api.OK},
		{"another checksum", changed(b, 6, 1, 7, 1), api.OK, api.OK},
		{"no checksum", changed(b, 6, 0, 7, 0), api.OK, api.OK},
		{"8 noughts", make([]byte, 8), api.ErrForm, api.OK},
	} {
		checkErr(t, x.name+", whole", carrying(api.UDP, x.data), x.whole)
		checkErr(t, x.name+", first", part(carrying(api.UDP, x.data), 0, true), x.first)
	}
}

// P8.1, UDP: every length that it may say of itself, at lengths of data around 8.
func TestDatagramEveryLength(t *testing.T) {
	for _, size := range []int{7, 8, 9, 300} {
		h := carrying(api.UDP, someBytes(rand.New(rand.NewSource(2)), size))
		whole, first := made(t, h), made(t, part(h, 0, true))
		for n := range 65536 {
			// The header of 28 bytes has no part in these two, nor its checksum.
			for _, b := range [][]byte{whole, first} {
				b[32], b[33] = byte(n/256), byte(n%256)
				checkParse(t, b)
			}
			p, e := Parse(first)
			if size >= 8 && (e != api.OK || p.Src != two(first, 28) || p.Dst != two(first, 30)) {
				t.Fatalf("%d of %d bytes: %+v, %v", n, size, p, e)
			}
		}
	}
}

// P8.1, ICMP: every Type and every Code, of a Whole and of a First one; of a
// query alone its number, twice; of no query's neither.
func TestMessages(t *testing.T) {
	for class, more := range []bool{false, true} {
		for kind := range 256 {
			for _, code := range []int{0, 1, 3, 8, 127, 128, 255} {
				for _, rest := range []uint32{0, 1, 0xffff, 0x10000, 0x12345678, 0x8000ffff, 0xfffe0000, math.MaxUint32} {
					want := api.Packet{Class: class, Type: kind, Code: code}
					if slices.Contains([]int{0, 8, 13, 14}, kind) {
						want.Src, want.Dst = int(rest/65536), int(rest/65536)
					}
					h := part(carrying(api.ICMP, message(kind, code, rest, []byte{1, 2, 3})), 0, more)
					checkIs(t, "a message", h, want)
				}
			}
		}
		for code := range 256 {
			h := part(carrying(api.ICMP, message(8, code, 0, nil)), 0, more)
			checkIs(t, "a code", h, api.Packet{Class: class, Type: 8, Code: code})
		}
	}
}

// P8.1, ICMP: chapter 7's errors, each at its edges, of a Whole one; of a First
// one ErrShort alone: its sum does not count.
func TestMessageErrors(t *testing.T) {
	b := message(8, 1, 0x12345678, []byte{1, 2, 3})
	right := []byte{255, 255, 0, 0, 0, 0, 0, 0}
	for _, x := range []struct {
		name         string
		data         []byte
		whole, first api.Errno
	}{
		{"none", nil, api.ErrShort, api.ErrShort},
		{"a type alone", b[:1], api.ErrShort, api.ErrShort},
		{"7 bytes", b[:7], api.ErrShort, api.ErrShort},
		{"7 bytes that are Right", right[:7], api.ErrShort, api.ErrShort},
		{"8 bytes that are Right", right, api.OK, api.OK},
		{"8 bytes that are not", b[:8], api.ErrSum, api.OK},
		{"8 noughts", make([]byte, 8), api.ErrSum, api.OK},
		{"the last byte missing", b[:10], api.ErrSum, api.OK},
		{"all of it", b, api.OK, api.OK},
		{"a checksum of one more", changed(b, 3, int(b[3])+1), api.ErrSum, api.OK},
		{"a checksum of one less", changed(b, 3, int(b[3])-1), api.ErrSum, api.OK},
		{"no checksum", changed(b, 2, 0, 3, 0), api.ErrSum, api.OK},
		{"an error, no checksum", changed(b, 0, 3, 2, 0, 3, 0), api.ErrSum, api.OK},
	} {
		checkErr(t, x.name+", whole", carrying(api.ICMP, x.data), x.whole)
		checkErr(t, x.name+", first", part(carrying(api.ICMP, x.data), 0, true), x.first)
	}
}

// P8.1, ICMP: of all checksums one alone is right of a Whole one, and none is
// wrong of a First one.
func TestMessageEveryChecksum(t *testing.T) {
	h := carrying(api.ICMP, message(8, 1, 0x12345678, []byte{1, 2, 3}))
	whole, first := made(t, h), made(t, part(h, 0, true))
	right := 0
	for n := range 65536 {
		for _, b := range [][]byte{whole, first} {
			b[30], b[31] = byte(n/256), byte(n%256)
			checkParse(t, b)
		}
		if p, e := Parse(first); e != api.OK || p.Src != 0x1234 || p.Type != 8 || p.Code != 1 {
			t.Fatalf("%d: %+v, %v", n, p, e)
		}
		if _, e := Parse(whole); e == api.OK {
			right++
		}
	}
	if right != 1 {
		t.Errorf("%d are right", right)
	}
}

// P8.1: of other protocols nothing more, whatever their data are.
func TestOtherProtocols(t *testing.T) {
	for proto := range 256 {
		if proto == api.ICMP || proto == api.TCP || proto == api.UDP {
			continue
		}
		for _, data := range [][]byte{nil, {1}, make([]byte, 8), segment(1, 2, 3), datagram(4, 5), message(8, 1, 0x60006, nil)} {
			checkIs(t, "whole", carrying(proto, data), api.Packet{Class: api.Whole})
			checkIs(t, "first", part(carrying(proto, data), 0, true), api.Packet{Class: api.First})
		}
	}
}

// quote is bytes as an error's data have them: a header with as many bytes of
// options, and eight bytes behind it.
func quote(t *testing.T, proto, options int, behind []byte) []byte {
	t.Helper()
	return made(t, api.IP{
		TOS: 3, ID: 9, TTL: 1, Proto: proto, Src: 0x0a0b0c0d, Dst: 0xf1e2d3c4,
		Options: bytes.Repeat([]byte{0x99}, options), Data: behind,
	})
}

// innerOf is what Parse tells as Inner of an error with such data.
func innerOf(t *testing.T, kind int, more bool, data []byte) *api.Key {
	t.Helper()
	b := made(t, part(carrying(api.ICMP, message(kind, 1, 0x12345678, data)), 0, more))
	p, e := Parse(b)
	if e != api.OK || p.Type != kind || p.Code != 1 || p.Src != 0 || p.Dst != 0 || p.Flags != 0 {
		t.Fatalf("%d, % x: %+v, %v", kind, data, p, e)
	}
	checkParse(t, b)
	return p.Inner
}

// checkInner holds Inner against a key, or none, of every type of errors, of a
// Whole and of a First message.
func checkInner(t *testing.T, name string, data []byte, want *api.Key) {
	t.Helper()
	for _, kind := range []int{3, 4, 5, 11, 12} {
		for _, more := range []bool{false, true} {
			got := innerOf(t, kind, more, data)
			if (got == nil) != (want == nil) || got != nil && *got != *want {
				t.Errorf("%s, type %d: %+v, want %+v", name, kind, got, want)
			}
		}
	}
}

// quotedKey is the key of quote's addresses.
func quotedKey(proto, a, b int) *api.Key {
	return &api.Key{Proto: proto, Src: 0x0a0b0c0d, Dst: 0xf1e2d3c4, A: a, B: b}
}

// P8.1, Inner: Proto, Src, Dst; both ports; a query's number, twice; else 0 and 0.
func TestInner(t *testing.T) {
	eight := []byte{0x11, 0x12, 0x13, 0x14, 0x15, 0x16, 0x17, 0x18}
	for options := 0; options <= 40; options += 4 {
		for _, x := range []struct {
			name   string
			proto  int
			behind []byte
			a, b   int
		}{
			{"eight bytes of TCP", api.TCP, eight, 0x1112, 0x1314},
			{"a segment", api.TCP, segment(1000, 80, 2), 1000, 80},
			{"a segment with a header of none", api.TCP, changed(segment(1000, 80, 2), 12, 0), 1000, 80},
			{"a segment of noughts", api.TCP, make([]byte, 8), 0, 0},
			{"a segment of ones", api.TCP, bytes.Repeat([]byte{255}, 8), 65535, 65535},
			{"eight bytes of UDP", api.UDP, eight, 0x1112, 0x1314},
			{"a datagram", api.UDP, datagram(1000, 53), 1000, 53},
			{"a datagram with a length of none", api.UDP, changed(datagram(1000, 53), 4, 0, 5, 0), 1000, 53},
			{"a datagram of ones", api.UDP, bytes.Repeat([]byte{255}, 8), 65535, 65535},
			{"a query", api.ICMP, message(8, 1, 0x12345678, []byte{1}), 0x1234, 0x1234},
			{"an answer", api.ICMP, message(0, 0, 0xffff0000, nil), 65535, 65535},
			{"a query with the number 0", api.ICMP, message(13, 0, 0xffff, nil), 0, 0},
			{"a query with a wrong checksum", api.ICMP, changed(message(14, 0, 0x70000, nil), 3, 1), 7, 7},
			{"an error", api.ICMP, message(3, 1, 0x12345678, quote(t, api.TCP, 0, eight)), 0, 0},
			{"a message of another type", api.ICMP, eight, 0, 0},
			{"another protocol", 47, eight, 0, 0},
			{"no protocol", 0, eight, 0, 0},
			{"the last protocol", 255, eight, 0, 0},
		} {
			checkInner(t, x.name, quote(t, x.proto, options, x.behind), quotedKey(x.proto, x.a, x.b))
		}
	}
}

// P8.1, Inner: none, each reason at its edges.
func TestInnerNone(t *testing.T) {
	q := quote(t, api.TCP, 0, segment(1000, 80, 2))
	long := quote(t, api.TCP, 8, segment(1000, 80, 2))
	most := quote(t, api.TCP, 40, segment(1000, 80, 2))
	key := quotedKey(api.TCP, 1000, 80)
	for _, x := range []struct {
		name string
		data []byte
		want *api.Key
	}{
		{"nothing", nil, nil},
		{"a byte that says 20", q[:1], nil},
		{"19 bytes", q[:19], nil},
		{"19 bytes, a header of 8", changed(q, 0, 0x42)[:19], nil},
		{"20 bytes", q[:20], nil},
		{"27 bytes", q[:27], nil},
		{"28 bytes", q[:28], key},
		{"29 bytes", q[:29], key},
		{"all of it", q, key},
		{"3 ahead", changed(q, 0, 0x35), nil},
		{"5 ahead", changed(q, 0, 0x55), nil},
		{"6 ahead", changed(q, 0, 0x65), nil},
		{"0 ahead", changed(q, 0, 0x05), nil},
		{"12 ahead", changed(q, 0, 0xc5), nil},
		{"a header of none", changed(q, 0, 0x40), nil},
		{"a header of 16", changed(q, 0, 0x44), nil},
		{"a header of 24", changed(q, 0, 0x46), quotedKey(api.TCP, 0x2122, 0x2324)},
		{"a header that is not there", most[:59], nil},
		{"a header of 60 alone", most[:60], nil},
		{"a header of 60 and seven", most[:67], nil},
		{"a header of 60 and eight", most[:68], key},
		{"a header of 28 that is not there", long[:27], nil},
		{"a header of 28 alone", long[:28], nil},
		{"a header of 28 and seven", long[:35], nil},
		{"a header of 28 and eight", long[:36], key},
		{"Off 1", changed(q, 7, 1), nil},
		{"Off 255", changed(q, 7, 255), nil},
		{"Off 256", changed(q, 6, 1), nil},
		{"Off 4096", changed(q, 6, 16), nil},
		{"Off 8191, DF, MF", changed(q, 6, 0x7f, 7, 255), nil},
		{"MF", changed(q, 6, 32), key},
		{"DF", changed(q, 6, 64), key},
		{"MF and Off 1", changed(q, 6, 32, 7, 1), nil},
		{"the highest bit of 6", changed(q, 6, 128), key},
	} {
		checkInner(t, x.name, x.data, x.want)
	}
}

// P8.1, Inner: every first byte, with data of every length.
func TestInnerEveryFirstByteAndLength(t *testing.T) {
	d := someBytes(rand.New(rand.NewSource(3)), 75)
	d[6], d[7], d[9] = 0x60, 0, api.UDP
	for first := range 256 {
		d[0] = byte(first)
		for size := range len(d) + 1 {
			if first/16 != 4 && size%7 != 0 {
				continue
			}
			got := innerOf(t, 3, false, d[:size])
			head := first % 16 * 4
			if there := first/16 == 4 && head >= 20 && size >= head+8; there != (got != nil) {
				t.Fatalf("%#x of %d bytes: %+v", first, size, got)
			}
		}
	}
}

// P8.1, Inner: every value of bytes 6 and 7: Off alone counts.
func TestInnerEveryCut(t *testing.T) {
	h := part(carrying(api.ICMP, message(11, 0, 0, quote(t, api.UDP, 0, datagram(9, 10)))), 0, true)
	b := made(t, h)
	for n := range 65536 {
		b[42], b[43] = byte(n/256), byte(n%256)
		p, e := Parse(b)
		if e != api.OK || (p.Inner != nil) != (n%8192 == 0) {
			t.Fatalf("%#x: %+v, %v", n, p.Inner, e)
		}
		if p.Inner != nil && *p.Inner != *quotedKey(api.UDP, 9, 10) {
			t.Fatalf("%#x: %+v", n, *p.Inner)
		}
	}
}

// P8.1, Inner: whatever its checksum and its length of all are, and TOS, ID, TTL.
func TestInnerIsNotTrusted(t *testing.T) {
	q := quote(t, api.TCP, 4, segment(1000, 80, 2))[:32]
	for n := range 65536 {
		for _, at := range []int{2, 10} {
			if n%16 != 0 && n > 300 && n < 65000 {
				continue
			}
			got := innerOf(t, 5, false, changed(q, at, n/256, at+1, n%256))
			if got == nil || *got != *quotedKey(api.TCP, 1000, 80) {
				t.Fatalf("%d at %d: %+v", n, at, got)
			}
		}
	}
	for _, at := range []int{1, 4, 5, 8} {
		for n := range 256 {
			got := innerOf(t, 5, false, changed(q, at, n))
			if got == nil || *got != *quotedKey(api.TCP, 1000, 80) {
				t.Fatalf("%d at %d: %+v", n, at, got)
			}
		}
	}
}

// P8.1, Inner: every protocol; and of ICMP every type.
func TestInnerEveryProtocolAndType(t *testing.T) {
	behind := []byte{200, 0x12, 0x13, 0x14, 0x15, 0x16, 0x17, 0x18}
	for n := range 256 {
		want := quotedKey(n, 0, 0)
		if n == 6 || n == 17 {
			want.A, want.B = 0xc812, 0x1314
		}
		checkInner(t, "a protocol", quote(t, n, 4, behind), want)
		want = quotedKey(api.ICMP, 0, 0)
		if slices.Contains([]int{0, 8, 13, 14}, n) {
			want.A, want.B = 0x1516, 0x1516
		}
		checkInner(t, "a type", quote(t, api.ICMP, 4, changed(behind, 0, n)), want)
	}
}

// P8.1, Inner: every byte of a quote is read at its own place, and no other.
func TestInnerEveryByte(t *testing.T) {
	for _, q := range [][]byte{
		quote(t, api.TCP, 0, segment(1000, 80, 2)), quote(t, api.UDP, 8, datagram(1000, 53)),
		quote(t, api.ICMP, 0, message(8, 1, 0x12345678, nil)), quote(t, 47, 0, make([]byte, 8)),
	} {
		for at := range q {
			for _, n := range []int{0, 1, 6, 8, 17, 0x44, 0x45, 0x46, 0x47, 127, 128, 255} {
				innerOf(t, 3, false, changed(q, at, n))
			}
		}
	}
}

// P8.1, Inner: of no other message, though its data would be a quote; nor of
// other protocols with such data.
func TestInnerOfErrorsAlone(t *testing.T) {
	q := quote(t, api.TCP, 0, segment(1000, 80, 2))
	for kind := range 256 {
		m := message(kind, 1, 0x12345678, q)
		for _, more := range []bool{false, true} {
			p, e := Parse(made(t, part(carrying(api.ICMP, m), 0, more)))
			bad := slices.Contains([]int{3, 4, 5, 11, 12}, kind)
			if e != api.OK || p.Type != kind || (p.Inner != nil) != bad {
				t.Errorf("%d: %+v, %v", kind, p.Inner, e)
			}
			for _, h := range []api.IP{carrying(50, m), carrying(2, m), part(carrying(api.ICMP, m), 1, more)} {
				if p, e := Parse(made(t, h)); e != api.OK || p.Inner != nil || p.Type != 0 || p.Code != 0 {
					t.Errorf("%d: %+v, %v", kind, p, e)
				}
			}
		}
	}
}

// sample is a packet with a value of its own in every field, also such as no
// bytes have.
func sample() api.Packet {
	h := carrying(0x21, []byte{31, 32, 33})
	h.MF, h.Off = true, 0x22
	return api.Packet{
		IP: h, Class: 0x41, Src: 0x42, Dst: 0x43, Flags: 0x44, Type: 0x45, Code: 0x46,
		Inner: &api.Key{Proto: 0x51, Src: 0x52, Dst: 0x53, A: 0x54, B: 0x55},
	}
}

// P8.2, KeyOf: as the fields have them, whatever the class, Inner and the data are.
func TestKeyOf(t *testing.T) {
	for _, x := range []struct {
		name string
		p    api.Packet
		want api.Key
	}{
		{"nothing", api.Packet{}, api.Key{}},
		{"every field", sample(), api.Key{Proto: 0x21, Src: 0x01020304, Dst: 0xf5f6f7f8, A: 0x42, B: 0x43}},
		{"a protocol", api.Packet{IP: api.IP{Proto: 6}}, api.Key{Proto: 6}},
		{"a source", api.Packet{IP: api.IP{Src: 7}}, api.Key{Src: 7}},
		{"a destination", api.Packet{IP: api.IP{Dst: 7}}, api.Key{Dst: 7}},
		{"a source's port", api.Packet{Src: 7}, api.Key{A: 7}},
		{"a destination's port", api.Packet{Dst: 7}, api.Key{B: 7}},
		{"beyond what bytes have", api.Packet{IP: api.IP{Proto: -1, Src: math.MaxUint32}, Src: math.MinInt, Dst: math.MaxInt},
			api.Key{Proto: -1, Src: math.MaxUint32, A: math.MinInt, B: math.MaxInt}},
		{"an error", api.Packet{IP: api.IP{Proto: 1, Src: 5}, Type: 3, Inner: &api.Key{Proto: 6, Src: 9, A: 3, B: 4}},
			api.Key{Proto: 1, Src: 5}},
		{"a later part", api.Packet{IP: api.IP{Proto: 6, Off: 1, Data: segment(1, 2, 3)}, Class: api.Later}, api.Key{Proto: 6}},
	} {
		if k := KeyOf(x.p); k != x.want {
			t.Errorf("%s: %+v", x.name, k)
		}
	}
}

// P8.2: the key of what Parse tells.
func TestKeyOfParse(t *testing.T) {
	for _, x := range []struct {
		h    api.IP
		a, b int
	}{
		{carrying(api.TCP, segment(1000, 80, 2)), 1000, 80},
		{carrying(api.UDP, datagram(1000, 53)), 1000, 53},
		{carrying(api.ICMP, message(8, 0, 0x12345678, nil)), 0x1234, 0x1234},
		{carrying(api.ICMP, message(3, 0, 0x12345678, quote(t, api.TCP, 0, segment(1000, 80, 2)))), 0, 0},
		{part(carrying(api.TCP, segment(1000, 80, 2)), 1, false), 0, 0},
		{carrying(50, segment(1000, 80, 2)), 0, 0},
	} {
		p, e := Parse(made(t, x.h))
		want := api.Key{Proto: x.h.Proto, Src: 0x01020304, Dst: 0xf5f6f7f8, A: x.a, B: x.b}
		if k := KeyOf(p); e != api.OK || k != want {
			t.Errorf("%+v: %+v, %v", x.h, k, e)
		}
	}
}

// P8.2, Turn: the other way round; P8.3: twice is nothing.
func TestTurn(t *testing.T) {
	for _, x := range []struct{ k, want api.Key }{
		{api.Key{}, api.Key{}},
		{api.Key{Proto: 6, Src: 1, Dst: 2, A: 3, B: 4}, api.Key{Proto: 6, Src: 2, Dst: 1, A: 4, B: 3}},
		{api.Key{Proto: 1, Src: 1, Dst: 2, A: 5, B: 5}, api.Key{Proto: 1, Src: 2, Dst: 1, A: 5, B: 5}},
		{api.Key{Src: 7}, api.Key{Dst: 7}},
		{api.Key{A: 7}, api.Key{B: 7}},
		{api.Key{Proto: math.MinInt, Dst: math.MaxUint32, B: math.MinInt}, api.Key{Proto: math.MinInt, Src: math.MaxUint32, A: math.MinInt}},
	} {
		if k := Turn(x.k); k != x.want {
			t.Errorf("%+v: %+v", x.k, k)
		}
		if k := Turn(Turn(x.k)); k != x.k {
			t.Errorf("%+v, twice: %+v", x.k, k)
		}
	}
	r := rand.New(rand.NewSource(4))
	for range 10000 {
		k := api.Key{Proto: int(r.Uint64()), Src: r.Uint32(), Dst: r.Uint32(), A: int(r.Uint64()), B: int(r.Uint64())}
		o := Turn(k)
		if o != (api.Key{Proto: k.Proto, Src: k.Dst, Dst: k.Src, A: k.B, B: k.A}) || Turn(o) != k {
			t.Fatalf("%+v: %+v", k, o)
		}
	}
}

// P8.2, Same: false where any one field differs.
func TestSame(t *testing.T) {
	if !Same(sample(), sample()) || !Same(api.Packet{}, api.Packet{}) {
		t.Error("one is not itself")
	}
	for _, x := range []struct {
		name   string
		change func(p *api.Packet)
	}{
		{"TOS", func(p *api.Packet) { p.IP.TOS++ }},
		{"ID", func(p *api.Packet) { p.IP.ID++ }},
		{"DF", func(p *api.Packet) { p.IP.DF = false }},
		{"MF", func(p *api.Packet) { p.IP.MF = false }},
		{"Off", func(p *api.Packet) { p.IP.Off++ }},
		{"TTL", func(p *api.Packet) { p.IP.TTL-- }},
		{"Proto", func(p *api.Packet) { p.IP.Proto += 256 }},
		{"the packet's Src", func(p *api.Packet) { p.IP.Src ^= 1 << 31 }},
		{"the packet's Dst", func(p *api.Packet) { p.IP.Dst ^= 1 }},
		{"the packet's Src and Dst for one another", func(p *api.Packet) { p.IP.Src, p.IP.Dst = p.IP.Dst, p.IP.Src }},
		{"a byte of options", func(p *api.Packet) { p.IP.Options[7]++ }},
		{"no options", func(p *api.Packet) { p.IP.Options = nil }},
		{"a byte of data", func(p *api.Packet) { p.IP.Data[2]++ }},
		{"more data", func(p *api.Packet) { p.IP.Data = append(p.IP.Data, 0) }},
		{"Class", func(p *api.Packet) { p.Class++ }},
		{"Src", func(p *api.Packet) { p.Src-- }},
		{"Src by 65536", func(p *api.Packet) { p.Src += 65536 }},
		{"Dst", func(p *api.Packet) { p.Dst = -p.Dst }},
		{"Src and Dst for one another", func(p *api.Packet) { p.Src, p.Dst = p.Dst, p.Src }},
		{"Flags", func(p *api.Packet) { p.Flags |= 64 | 1 }},
		{"Type", func(p *api.Packet) { p.Type += 256 }},
		{"Code", func(p *api.Packet) { p.Code -= 256 }},
		{"Type and Code for one another", func(p *api.Packet) { p.Type, p.Code = p.Code, p.Type }},
		{"no Inner", func(p *api.Packet) { p.Inner = nil }},
		{"an Inner of nothing", func(p *api.Packet) { p.Inner = &api.Key{} }},
		{"Inner's Proto", func(p *api.Packet) { p.Inner.Proto++ }},
		{"Inner's Src", func(p *api.Packet) { p.Inner.Src++ }},
		{"Inner's Dst", func(p *api.Packet) { p.Inner.Dst++ }},
		{"Inner's A", func(p *api.Packet) { p.Inner.A++ }},
		{"Inner's B", func(p *api.Packet) { p.Inner.B++ }},
		{"Inner turned", func(p *api.Packet) { *p.Inner = Turn(*p.Inner) }},
	} {
		p := sample()
		x.change(&p)
		if Same(p, sample()) || Same(sample(), p) {
			t.Errorf("%s: the same", x.name)
		}
		if !Same(p, p) {
			t.Errorf("%s: not itself", x.name)
		}
	}
}

// P8.2, Same: Inner both nil, or one: by what it says, not by where it stands;
// none is not one of nothing.
func TestSameInner(t *testing.T) {
	one := &api.Key{Proto: 6, A: 1}
	for _, x := range []struct {
		a, b *api.Key
		want bool
	}{
		{nil, nil, true}, {one, one, true}, {one, &api.Key{Proto: 6, A: 1}, true}, {&api.Key{}, &api.Key{}, true},
		{one, nil, false}, {&api.Key{}, nil, false}, {one, &api.Key{Proto: 6, A: 2}, false}, {one, &api.Key{}, false},
	} {
		a, b := api.Packet{Inner: x.a}, api.Packet{Inner: x.b}
		if Same(a, b) != x.want || Same(b, a) != x.want {
			t.Errorf("%+v, %+v", x.a, x.b)
		}
	}
}

// W5: nil and empty lists are one, on either side; spare room counts nothing.
func TestNilAndEmpty(t *testing.T) {
	for _, a := range [][]byte{nil, {}, make([]byte, 0, 9)} {
		for _, b := range [][]byte{nil, {}, make([]byte, 0, 9)} {
			p, o := sample(), sample()
			p.IP.Data, o.IP.Options = a, b
			q, r := sample(), sample()
			q.IP.Data, r.IP.Options = b, a
			if !Same(p, q) || !Same(o, r) || KeyOf(p) != KeyOf(q) || Class(p.IP) != Class(q.IP) {
				t.Errorf("%v, %v", a, b)
			}
		}
	}
	p := sample()
	p.IP.Data = append(make([]byte, 0, 90), p.IP.Data...)
	if !Same(p, sample()) || !Same(sample(), p) {
		t.Error("spare room counts")
	}
}

// someData is data that is a protocol's, or nearly, or nothing of the kind.
func someData(r *rand.Rand, proto int) []byte {
	ports := [2]int{r.Intn(65536), r.Intn(65536)}
	b := someBytes(r, r.Intn(40))
	switch {
	case r.Intn(8) == 0:
	case proto == api.TCP:
		b = segment(ports[0], ports[1], r.Intn(64))
	case proto == api.UDP:
		b = datagram(ports[0], ports[1])
	case proto == api.ICMP && r.Intn(2) == 0:
		b = message([]int{0, 8, 13, 14, 9}[r.Intn(5)], r.Intn(256), r.Uint32(), b)
	case proto == api.ICMP:
		inner, _ := ip.Build(somePacket(r))
		b = message([]int{3, 4, 5, 11, 12, 6}[r.Intn(6)], r.Intn(256), r.Uint32(), icmp.Quote(inner))
	}
	if r.Intn(4) == 0 && len(b) > 0 {
		b[r.Intn(len(b))] = byte(r.Intn(256))
	}
	if r.Intn(4) == 0 {
		b = b[:r.Intn(len(b)+1)]
	}
	return b
}

// somePacket is one that ip's Build takes.
func somePacket(r *rand.Rand) api.IP {
	proto := []int{api.TCP, api.UDP, api.ICMP, r.Intn(256)}[r.Intn(4)]
	return api.IP{
		TOS: r.Intn(256), ID: r.Intn(65536), DF: r.Intn(2) == 0, MF: r.Intn(2) == 0, Off: r.Intn(8192) * (r.Intn(4) / 3),
		TTL: r.Intn(256), Proto: proto, Src: r.Uint32(), Dst: r.Uint32(),
		Options: someBytes(r, 4*r.Intn(11)), Data: someData(r, proto),
	}
}

// P8.1: packets of all kinds, right and wrong, are told as the promise's words
// tell them; P8.2: two answers of one packet are the same.
func TestAnyPackets(t *testing.T) {
	r := rand.New(rand.NewSource(5))
	kinds := map[[2]int]int{}
	inner := 0
	for range 60000 {
		b, e := ip.Build(somePacket(r))
		if e != api.OK {
			t.Fatal(e)
		}
		checkParse(t, b)
		first, e := Parse(b)
		second, _ := Parse(b)
		if !Same(first, second) || Turn(Turn(KeyOf(first))) != KeyOf(second) {
			t.Fatalf("% x: two answers", b)
		}
		kinds[[2]int{first.Class, int(e)}]++
		if first.Inner != nil {
			inner++
		}
	}
	// The packets above are worth something only if all kinds came up.
	if len(kinds) < 6 || inner < 100 {
		t.Errorf("%v, %d", kinds, inner)
	}
}

// W1: bytes of any kind, and packets with bytes wrong or cut off: none panics.
func TestAnyBytes(t *testing.T) {
	r := rand.New(rand.NewSource(6))
	for range 30000 {
		checkParse(t, someBytes(r, r.Intn(90)))
		b, _ := ip.Build(somePacket(r))
		for range 1 + r.Intn(3) {
			b[r.Intn(len(b))] = byte(r.Intn(256))
		}
		checkParse(t, b)
		if r.Intn(2) == 0 && int(b[0])%16 >= 3 {
			checkParse(t, summed(b))
		}
		checkParse(t, b[:r.Intn(len(b)+1)])
	}
}

// roomy is b with spare room behind it, and the whole of its memory.
func roomy(b []byte) (list, memory []byte) {
	memory = append(slices.Clone(b), 0x51, 0x52, 0x53, 0x54, 0x55, 0x56, 0x57, 0x58)
	return memory[:len(b)], memory
}

// fill writes over a list and over the spare room behind it.
func fill(b []byte, n byte) {
	b = b[:cap(b)]
	for i := range b {
		b[i] = n
	}
}

// shows tells whether n stands in a list or in the spare room behind it.
func shows(b []byte, n byte) bool {
	return bytes.IndexByte(b[:cap(b)], n) >= 0
}

// packets are some of every kind, with and without options, data and Inner.
func packets(t *testing.T) []api.IP {
	t.Helper()
	about := quote(t, api.TCP, 0, segment(1000, 80, 2))
	return []api.IP{
		carrying(api.TCP, segment(1000, 80, 2)), part(carrying(api.TCP, segment(1000, 80, 2)), 0, true),
		carrying(api.UDP, datagram(1000, 53)), part(carrying(api.UDP, datagram(1000, 53)), 0, true),
		carrying(api.ICMP, message(8, 0, 0x12345678, []byte{1})), carrying(api.ICMP, message(3, 0, 0, about)),
		part(carrying(api.ICMP, message(3, 0, 0, about)), 0, true), part(carrying(api.ICMP, []byte{1, 2, 3}), 9, false),
		carrying(50, []byte{1, 2, 3}), {Proto: 50, Data: []byte{1}}, {},
	}
}

// P8.3, W6: bytes are not changed, nor the room behind, whether it errs or not.
func TestParseChangesNothing(t *testing.T) {
	list := [][]byte{nil, {0x45}, made(t, carrying(api.TCP, []byte{1})), made(t, carrying(api.ICMP, make([]byte, 8)))}
	for _, h := range packets(t) {
		b := made(t, h)
		list = append(list, b, b[:len(b)-1], changed(b, 10, 1))
	}
	for _, x := range list {
		b, memory := roomy(x)
		before := slices.Clone(memory)
		Parse(b)
		if !bytes.Equal(memory, before) {
			t.Errorf("% x, want % x", memory, before)
		}
	}
}

// P8.3, W6: the lists and the Inner of a packet that is handed in stay as they are.
func TestPacketsAreNotChanged(t *testing.T) {
	p := sample()
	var options, data []byte
	p.IP.Options, options = roomy(p.IP.Options)
	p.IP.Data, data = roomy(p.IP.Data)
	wantOptions, wantData, wantInner := slices.Clone(options), slices.Clone(data), *p.Inner
	Class(p.IP)
	Turn(KeyOf(p))
	Same(p, sample())
	Same(sample(), p)
	Same(p, api.Packet{})
	if !bytes.Equal(options, wantOptions) || !bytes.Equal(data, wantData) || *p.Inner != wantInner || !equal(p, sample()) {
		t.Errorf("%+v", p)
	}
}

// P8.3, W6, W7: writing over all that Parse answered, spare room and Inner too,
// changes neither the bytes nor another answer nor one list by the other; nor
// does writing over the bytes.
func TestParseIsNewMemory(t *testing.T) {
	for _, h := range packets(t) {
		b, memory := roomy(made(t, h))
		before := slices.Clone(memory)
		want, _ := plainParse(b)
		first, _ := Parse(b)
		second, _ := Parse(b)
		fill(first.IP.Options, 0xaa)
		if shows(first.IP.Data, 0xaa) || !bytes.Equal(first.IP.Data, h.Data) {
			t.Errorf("two lists share: %+v", first)
		}
		fill(first.IP.Data, 0xbb)
		if shows(first.IP.Options, 0xbb) {
			t.Errorf("two lists share: %+v", first)
		}
		if first.Inner != nil {
			*first.Inner = api.Key{Proto: 99}
		}
		if shows(second.IP.Options, 0xaa) || shows(second.IP.Data, 0xbb) || !equal(second, want) {
			t.Errorf("two answers share: %+v, %+v", second, second.Inner)
		}
		if !bytes.Equal(memory, before) {
			t.Errorf("what was handed in: % x, want % x", memory, before)
		}
		fill(b, 0xcc)
		if shows(second.IP.Options, 0xcc) || shows(second.IP.Data, 0xcc) || !equal(second, want) {
			t.Errorf("kept: %+v, %+v", second, second.Inner)
		}
	}
}

// W6, W7: a key stays what it is when its packet is written over.
func TestKeysAreTheirOwn(t *testing.T) {
	p := sample()
	k := KeyOf(p)
	o := Turn(k)
	want := k
	p.Src, p.IP.Src, *p.Inner = 1, 1, api.Key{}
	o.A = 9
	if k != want {
		t.Errorf("%+v", k)
	}
}

// W2: nothing is kept: the same call tells the same, whatever was called between.
func TestNothingIsKept(t *testing.T) {
	b := made(t, carrying(api.ICMP, message(3, 1, 0, quote(t, api.TCP, 0, segment(1000, 80, 2)))))
	p, _ := Parse(b)
	Parse(nil)
	for _, h := range packets(t) {
		Parse(made(t, h))
		Class(h)
	}
	Parse(made(t, carrying(api.UDP, make([]byte, 8))))
	Turn(KeyOf(sample()))
	Same(p, sample())
	again, e := Parse(b)
	if e != api.OK || !equal(again, p) || again.Inner == p.Inner {
		t.Errorf("another answer: %+v, %v", again, e)
	}
}
