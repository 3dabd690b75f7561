package sum

import (
	"bytes"
	"math"
	"math/big"
	"math/rand"
	"slices"
	"testing"

	"castellan/word"
)

// edges are numbers of two bytes at which sums carry, turn or vanish.
var edges = []int{0, 1, 2, 254, 255, 256, 257, 0x7ffe, 0x7fff, 0x8000, 0x8001, 0xff00, 0xfffd, 0xfffe, 0xffff}

// plainFold is what is left of a whole number when what is above 16 bits is
// added again: 0 of 0 alone, else the rest by 65535 that is not 0.
func plainFold(total *big.Int) int {
	if total.Sign() == 0 {
		return 0
	}
	rest := new(big.Int).Mod(total, big.NewInt(65535))
	if rest.Sign() == 0 {
		return 65535
	}
	return int(rest.Int64())
}

// plainOf is a checksum by numbers that have no bound, over bytes already joined.
func plainOf(b []byte) int {
	total := new(big.Int)
	for at := 0; at < len(b); at += 2 {
		total.Add(total, big.NewInt(int64(word.Get16(b, at))))
	}
	return 65535 - plainFold(total)
}

// modulo is n modulo 65536 by division.
func modulo(n int) int { return (n%65536 + 65536) % 65536 }

// plainUpdate is P2.2's words by numbers that have no bound.
func plainUpdate(sum, was, now int) int {
	total := (65535 - modulo(sum)) + (65535 - modulo(was)) + modulo(now)
	return 65535 - plainFold(big.NewInt(int64(total)))
}

// alike tells whether two sums are one, where 0 and 65535 stand for one another.
func alike(a, b int) bool { return a == b || a+b == 65535 && a*b == 0 }

// someBytes are n bytes that hang on r alone.
func someBytes(r *rand.Rand, n int) []byte {
	b := make([]byte, n)
	for i := range b {
		b[i] = byte(r.Intn(256))
	}
	return b
}

// P2.1: ordinary inputs, odd ones, carries, nil and empty ones.
func TestOf(t *testing.T) {
	for _, x := range []struct {
		name string
		l    [][]byte
		want int
	}{
		{"the chapter's example", [][]byte{{0, 1, 242, 3}}, 3579},
		{"a nil list of lists", nil, 65535},
		{"an empty list of lists", [][]byte{}, 65535},
		{"one nil", [][]byte{nil}, 65535},
		{"nil and empty ones alone", [][]byte{nil, {}, nil}, 65535},
		{"noughts", [][]byte{{0, 0, 0, 0}}, 65535},
		{"one nought", [][]byte{{0}}, 65535},
		{"all ones", [][]byte{{255, 255}}, 0},
		{"all ones, twice", [][]byte{{255, 255, 255, 255}}, 0},
		{"the highest byte first", [][]byte{{1, 2}}, 0xffff - 0x0102},
		{"behind an odd one 0", [][]byte{{1}}, 0xffff - 0x0100},
		{"behind a third one 0", [][]byte{{1, 2, 3}}, 0xffff - 0x0402},
		{"up to 16 bits", [][]byte{{0xff, 0xfe, 0, 1}}, 0},
		{"one above 16 bits", [][]byte{{0xff, 0xff, 0, 1}}, 0xffff - 1},
		{"just above 16 bits", [][]byte{{0x80, 0, 0x80, 0}}, 0xffff - 1},
		{"what was added again carries anew", [][]byte{{0xff, 0xff, 0xff, 0xff, 0, 1}}, 0xffff - 1},
		{"two, each whole", [][]byte{{1, 2}, {3, 4}}, 0xffff - 0x0406},
		{"two, each odd", [][]byte{{1}, {2}}, 0xffff - 0x0102},
		{"three, each odd", [][]byte{{1}, {2}, {3}}, 0xffff - 0x0402},
		{"odd, then even", [][]byte{{1}, {2, 3}}, 0xffff - 0x0402},
		{"even, then odd", [][]byte{{1, 2}, {3}}, 0xffff - 0x0402},
		{"nil and empty ones among them", [][]byte{nil, {1}, {}, nil, {2, 3}, {}, {4}, nil}, 0xffff - 0x0406},
		{"an empty one behind an odd one", [][]byte{{1}, {}}, 0xffff - 0x0100},
		{"a header", [][]byte{{0x45, 0, 0, 0x73, 0, 0, 0x40, 0, 0x40, 0x11, 0, 0, 0xc0, 0xa8, 0, 1, 0xc0, 0xa8, 0, 0xc7}}, 0xb861},
	} {
		if got := Of(x.l...); got != x.want {
			t.Errorf("%s: %d, want %d", x.name, got, x.want)
		}
	}
	if got := Of(); got != 65535 {
		t.Errorf("none handed in: %d", got)
	}
}

// P2.1: every number of two bytes alone, and every one of one byte.
func TestOfOneNumber(t *testing.T) {
	for n := range 65536 {
		if got := Of([]byte{byte(n >> 8), byte(n)}); got != 65535-n {
			t.Fatalf("%#x: %#x", n, got)
		}
	}
	for n := range 256 {
		if got := Of([]byte{byte(n)}); got != 65535-256*n {
			t.Fatalf("%#x: %#x", n, got)
		}
	}
}

// P2.1: two numbers, at every edge, in one list and in two.
func TestOfTwoNumbers(t *testing.T) {
	for _, a := range edges {
		for _, b := range edges {
			first, second := word.Put16(a), word.Put16(b)
			want := plainOf(word.Join(first, second))
			if got := Of(word.Join(first, second)); got != want {
				t.Errorf("%#x, %#x whole: %#x, want %#x", a, b, got, want)
			}
			if got := Of(first, second); got != want {
				t.Errorf("%#x, %#x in parts: %#x, want %#x", a, b, got, want)
			}
		}
	}
}

// P2.1: the same bytes tell the same sum, whole or cut at any two places.
func TestOfWholeOrInParts(t *testing.T) {
	r := rand.New(rand.NewSource(1))
	for size := range 24 {
		b := someBytes(r, size)
		want := plainOf(b)
		if got := Of(b); got != want {
			t.Fatalf("% x: %#x, want %#x", b, got, want)
		}
		for i := range size + 1 {
			for j := i; j <= size; j++ {
				if got := Of(b[:i], b[i:j], nil, b[j:]); got != want {
					t.Fatalf("% x cut at %d and %d: %#x, want %#x", b, i, j, got, want)
				}
			}
		}
	}
}

// P2.1: the same bytes one by one, with empty ones between.
func TestOfByteByByte(t *testing.T) {
	r := rand.New(rand.NewSource(2))
	for size := range 60 {
		b := someBytes(r, size)
		var l [][]byte
		for i := range b {
			l = append(l, b[i:i+1], nil, b[i:i])
		}
		if got, want := Of(l...), plainOf(b); got != want {
			t.Fatalf("% x: %#x, want %#x", b, got, want)
		}
	}
}

// P2.1, W10: what is far above 16 bits, and above 32, is added again, nothing wraps.
func TestOfMany(t *testing.T) {
	ones := bytes.Repeat([]byte{255}, 1<<20)
	r := rand.New(rand.NewSource(3))
	mixed := someBytes(r, 300001)
	for _, x := range []struct {
		name string
		l    [][]byte
		want int
	}{
		{"ones", [][]byte{ones}, 0},
		{"ones, and an odd one", [][]byte{ones, {255}}, 255},
		{"ones behind an odd one", [][]byte{{255}, ones}, 255},
		{"ones, and 1", [][]byte{ones, {0, 1}}, 65534},
		{"ones, many times", slices.Repeat([][]byte{ones}, 20), 0},
		{"mixed bytes", [][]byte{mixed}, plainOf(mixed)},
		{"mixed bytes, twice", [][]byte{mixed, mixed}, plainOf(word.Join(mixed, mixed))},
	} {
		if got := Of(x.l...); got != x.want {
			t.Errorf("%s: %d, want %d", x.name, got, x.want)
		}
	}
}

// P2.1: the spare room behind a list's end holds no bytes of the list.
func TestOfLeavesSpareRoomUnread(t *testing.T) {
	b := []byte{1, 2, 3, 4}[:1]
	if got := Of(b); got != 0xffff-0x0100 {
		t.Errorf("%#x", got)
	}
	if got := Of(b[:0]); got != 0xffff {
		t.Errorf("%#x of none", got)
	}
}

// P2.1: Right is whether Of is 0.
func TestRight(t *testing.T) {
	for _, x := range []struct {
		name string
		b    []byte
		want bool
	}{
		{"nil", nil, false},
		{"empty", []byte{}, false},
		{"noughts", []byte{0, 0}, false},
		{"many noughts", make([]byte, 20), false},
		{"all ones", []byte{255, 255}, true},
		{"all ones behind noughts", []byte{0, 0, 255, 255}, true},
		{"all ones, twice", []byte{255, 255, 255, 255}, true},
		{"all ones and an odd nought", []byte{255, 255, 0}, true},
		{"all ones and an odd one", []byte{255, 255, 1}, false},
		{"one byte of ones", []byte{255}, false},
		{"ones across an odd end", []byte{0, 255, 255}, true},
		{"one too few", []byte{255, 254}, false},
		{"the example with its sum", []byte{0, 1, 242, 3, 3579 >> 8, 3579 & 255}, true},
		{"the example with one more", []byte{0, 1, 242, 3, 3579 >> 8, 3579&255 + 1}, false},
		{"the example with its sum turned", []byte{0, 1, 242, 3, 3579 & 255, 3579 >> 8}, false},
		{"a header", []byte{0x45, 0, 0, 0x73, 0, 0, 0x40, 0, 0x40, 0x11, 0xb8, 0x61, 0xc0, 0xa8, 0, 1, 0xc0, 0xa8, 0, 0xc7}, true},
	} {
		if got := Right(x.b); got != x.want {
			t.Errorf("%s: %v", x.name, got)
		}
		if got := Of(x.b) == 0; got != x.want {
			t.Errorf("%s: Of is 0: %v", x.name, got)
		}
	}
	for n := range 65536 {
		if got := Right(word.Put16(n)); got != (n == 65535) {
			t.Fatalf("%#x: %v", n, got)
		}
	}
}

// P2.1: src, dst, 0, proto modulo 256, n as Put16 puts it.
func TestPseudo(t *testing.T) {
	for _, x := range []struct {
		name     string
		src, dst uint32
		proto, n int
		want     []byte
	}{
		{"an ordinary one", 0x0a000001, 0x0b000002, 6, 300, []byte{10, 0, 0, 1, 11, 0, 0, 2, 0, 6, 1, 44}},
		{"every byte its own", 0x01020304, 0x05060708, 9, 0x0a0b, []byte{1, 2, 3, 4, 5, 6, 7, 8, 0, 9, 10, 11}},
		{"noughts", 0, 0, 0, 0, make([]byte, 12)},
		{"the greatest", math.MaxUint32, math.MaxUint32, 255, 65535, []byte{255, 255, 255, 255, 255, 255, 255, 255, 0, 255, 255, 255}},
		{"proto just too great", 0, 0, 256, 0, make([]byte, 12)},
		{"proto too great", 0, 0, 256 + 17, 0, []byte{0, 0, 0, 0, 0, 0, 0, 0, 0, 17, 0, 0}},
		{"proto far too great", 0, 0, math.MaxInt, 0, []byte{0, 0, 0, 0, 0, 0, 0, 0, 0, 255, 0, 0}},
		{"proto below 0", 0, 0, -1, 0, []byte{0, 0, 0, 0, 0, 0, 0, 0, 0, 255, 0, 0}},
		{"proto further below 0", 0, 0, -250, 0, []byte{0, 0, 0, 0, 0, 0, 0, 0, 0, 6, 0, 0}},
		{"proto 256 below 0", 0, 0, -256, 0, make([]byte, 12)},
		{"proto the least", 0, 0, math.MinInt, 0, make([]byte, 12)},
		{"n just too great", 0, 0, 0, 65536, make([]byte, 12)},
		{"n too great", 0, 0, 0, 65536 + 258, []byte{0, 0, 0, 0, 0, 0, 0, 0, 0, 0, 1, 2}},
		{"n far too great", 0, 0, 0, math.MaxInt, []byte{0, 0, 0, 0, 0, 0, 0, 0, 0, 0, 255, 255}},
		{"n below 0", 0, 0, 0, -2, []byte{0, 0, 0, 0, 0, 0, 0, 0, 0, 0, 255, 254}},
		{"n the least", 0, 0, 0, math.MinInt + 1, []byte{0, 0, 0, 0, 0, 0, 0, 0, 0, 0, 0, 1}},
	} {
		if got := Pseudo(x.src, x.dst, x.proto, x.n); !bytes.Equal(got, x.want) {
			t.Errorf("%s: % x, want % x", x.name, got, x.want)
		}
	}
}

// P2.1: proto takes one byte, and never the byte ahead of it, whatever it is.
func TestPseudoOfEveryProto(t *testing.T) {
	for proto := -600; proto <= 600; proto++ {
		got := Pseudo(1, 2, proto, 3)
		want := []byte{0, 0, 0, 1, 0, 0, 0, 2, 0, byte((proto + 1024) % 256), 0, 3}
		if !bytes.Equal(got, want) {
			t.Fatalf("%d: % x, want % x", proto, got, want)
		}
	}
}

// P2.2: ordinary inputs and edges, told exactly.
func TestUpdate(t *testing.T) {
	for _, x := range []struct {
		name               string
		sum, was, now, out int
	}{
		{"carries come back", 0xdd2f, 0x5555, 0x3285, 0x0000},
		{"one more", 100, 5, 6, 99},
		{"one less", 100, 6, 5, 101},
		{"nothing new", 3579, 1, 1, 3579},
		{"the last one away", 100, 1, 0, 101},
		{"noughts", 0, 0, 0, 0},
		{"a nought where nothing was", 65535, 0, 0, 0},
		{"all ones away", 65535, 65535, 0, 65535},
		{"all ones come", 65535, 0, 65535, 0},
		{"all ones", 65535, 65535, 65535, 0},
		{"a nought for all ones", 0, 65535, 0, 0},
		{"what was added again carries anew", 0, 0, 1, 65534},
		{"a TTL one less", 0xb861, 0x4011, 0x3f11, 0xb961},
	} {
		if got := Update(x.sum, x.was, x.now); got != x.out {
			t.Errorf("%s: %#x, want %#x", x.name, got, x.out)
		}
	}
}

// P2.2: each argument modulo 65536, each for itself, below 0 and above 65535.
func TestUpdateModulo(t *testing.T) {
	for _, x := range []struct {
		name          string
		sum, was, now int
	}{
		{"sum too great", 3579 + 65536, 1, 7},
		{"was too great", 3579, 1 + 65536, 7},
		{"now too great", 3579, 1, 7 + 65536},
		{"sum below 0", 3579 - 65536, 1, 7},
		{"was below 0", 3579, 1 - 65536, 7},
		{"now below 0", 3579, 1, 7 - 65536},
		{"all too great", 3579 + 3*65536, 1 + 5*65536, 7 + 1<<40},
		{"all below 0", 3579 - 3*65536, 1 - 5*65536, 7 - 1<<40},
		{"near the greatest", math.MaxInt - 65535 + 3579, math.MaxInt - 65535 + 1, math.MaxInt - 65535 + 7},
		{"near the least", math.MinInt + 3579, math.MinInt + 1, math.MinInt + 7},
	} {
		if got := Update(x.sum, x.was, x.now); got != 3573 {
			t.Errorf("%s: %d, want 3573", x.name, got)
		}
	}
}

// P2.2, W10: at every edge, also those of int, the words of the promise by plain numbers.
func TestUpdateAtEdges(t *testing.T) {
	wide := slices.Clone(edges)
	for _, n := range edges {
		wide = append(wide, n+65536, n-65536)
	}
	wide = append(wide, -1, 65536, math.MaxInt, math.MaxInt-1, math.MinInt, math.MinInt+1)
	for _, sum := range wide {
		for _, was := range wide {
			for _, now := range wide {
				if got, want := Update(sum, was, now), plainUpdate(sum, was, now); got != want {
					t.Fatalf("Update(%d, %d, %d): %d, want %d", sum, was, now, got, want)
				}
			}
		}
	}
}

// P2.2: every number of two bytes as each of the arguments.
func TestUpdateOfEveryNumber(t *testing.T) {
	for n := range 65536 {
		for _, x := range [][3]int{{n, 258, 772}, {258, n, 772}, {258, 772, n}} {
			if got, want := Update(x[0], x[1], x[2]), plainUpdate(x[0], x[1], x[2]); got != want {
				t.Fatalf("%v: %d, want %d", x, got, want)
			}
		}
	}
}

// P2.3: made with noughts in its place, and put there, a sum is Right.
func TestASumInItsOwnBytesIsRight(t *testing.T) {
	r := rand.New(rand.NewSource(4))
	for size := 2; size < 40; size++ {
		for _, b := range [][]byte{make([]byte, size), bytes.Repeat([]byte{255}, size), someBytes(r, size), someBytes(r, size)} {
			for at := 0; at+2 <= size; at += 2 {
				with := slices.Clone(b)
				copy(with[at:], []byte{0, 0})
				copy(with[at:], word.Put16(Of(with)))
				if !Right(with) {
					t.Fatalf("not right: % x, the sum at %d", with, at)
				}
				with[at] ^= 4
				if Right(with) {
					t.Fatalf("right: % x, one bit turned at %d", with, at)
				}
			}
		}
	}
}

// P2.3: the same over parts, as a segment has its sum behind a header that is not sent.
func TestASumOverPartsIsRight(t *testing.T) {
	r := rand.New(rand.NewSource(5))
	for size := 8; size < 40; size++ {
		data := someBytes(r, size)
		copy(data[6:], []byte{0, 0})
		head := Pseudo(r.Uint32(), r.Uint32(), 17, size)
		copy(data[6:], word.Put16(Of(head, data)))
		if !Right(word.Join(head, data)) {
			t.Fatalf("% x, % x", head, data)
		}
	}
}

// P2.3: where one number of two bytes is replaced, Update tells Of anew.
func TestUpdateTellsOfAnew(t *testing.T) {
	r := rand.New(rand.NewSource(6))
	for size := 2; size < 24; size++ {
		for _, b := range [][]byte{make([]byte, size), bytes.Repeat([]byte{255}, size), someBytes(r, size)} {
			for at := 0; at+2 <= size; at += 2 {
				for _, now := range append(slices.Clone(edges), r.Intn(65536)) {
					with := slices.Clone(b)
					copy(with[at:], word.Put16(now))
					got, want := Update(Of(b), word.Get16(b, at), now), Of(with)
					if !alike(got, want) {
						t.Fatalf("% x, %#x at %d: %d, want %d", b, now, at, got, want)
					}
				}
			}
		}
	}
}

// P2.3: replaced there and back again, step by step, it is the sum it was.
func TestUpdateThereAndBack(t *testing.T) {
	r := rand.New(rand.NewSource(7))
	for range 200 {
		b := someBytes(r, 20)
		b[0] = 0x45
		first := Of(b)
		sum, was := first, word.Get16(b, 8)
		for n := was; n > was-5; n-- {
			sum = Update(sum, n, n-1)
		}
		if got := Update(sum, was-5, was); !alike(got, first) {
			t.Fatalf("% x: %d, want %d", b, got, first)
		}
	}
}

// W6: bytes, their spare room and the list of lists stay as they were.
func TestNothingHandedInIsChanged(t *testing.T) {
	backing := []byte{1, 2, 3, 4, 5, 6, 7, 8, 9}
	before := slices.Clone(backing)
	for end := range backing {
		Of(backing[:end])
		Of(backing[:end], backing[end:], nil)
		Right(backing[:end])
	}
	if !bytes.Equal(backing, before) {
		t.Errorf("% x, want % x", backing, before)
	}
	rows := [][]byte{backing[:1], nil, backing[1:4], backing[4:5]}
	Of(rows[:3]...)
	if len(rows[0]) != 1 || &rows[0][0] != &backing[0] || rows[1] != nil || len(rows[2]) != 3 || &rows[2][0] != &backing[1] || len(rows[3]) != 1 || &rows[3][0] != &backing[4] {
		t.Errorf("%v", rows)
	}
}

// W2, W6, W7: what Pseudo answers is new memory, spare room too, and stays.
func TestPseudoIsNewMemory(t *testing.T) {
	call := func() []byte { return Pseudo(0x01020304, 0x05060708, 9, 0x0a0b) }
	want := []byte{1, 2, 3, 4, 5, 6, 7, 8, 0, 9, 10, 11}
	first, second := call(), call()
	for i := range first[:cap(first)] {
		first[:cap(first)][i] = 0xaa
	}
	if !bytes.Equal(second, want) || bytes.IndexByte(second[:cap(second)], 0xaa) >= 0 {
		t.Errorf("the second: % x", second[:cap(second)])
	}
	if third := call(); !bytes.Equal(third, want) {
		t.Errorf("the third: % x", third)
	}
}

// W2: nothing is kept: the same call tells the same, whatever was called between.
func TestNothingIsKept(t *testing.T) {
	b := []byte{0, 1, 242, 3, 7}
	sum, up, right := Of(b), Update(100, 5, 6), Right([]byte{255, 255})
	Of([]byte{1})
	Update(65535, 65535, 0)
	Right([]byte{0})
	if Of(b) != sum || Update(100, 5, 6) != up || Right([]byte{255, 255}) != right {
		t.Error("another answer")
	}
}
