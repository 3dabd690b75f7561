package word

import (
	"bytes"
	"math"
	"slices"
	"testing"
)

// P1.1: the highest byte first, and 0 for each byte that is not there.
func TestGet(t *testing.T) {
	five := []byte{1, 2, 3, 4, 5}
	high := []byte{0xff, 0xfe, 0xfd, 0xfc}
	for _, x := range []struct {
		name string
		b    []byte
		at   int
		two  int
		four uint32
	}{
		{"from the first", five, 0, 0x0102, 0x01020304},
		{"from the second", five, 1, 0x0203, 0x02030405},
		{"one byte missing behind", five, 2, 0x0304, 0x03040500},
		{"two bytes missing behind", five, 3, 0x0405, 0x04050000},
		{"the last one", five, 4, 0x0500, 0x05000000},
		{"behind the last one", five, 5, 0, 0},
		{"far behind", five, 1 << 30, 0, 0},
		{"one ahead", five, -1, 0x0001, 0x00010203},
		{"two ahead", five, -2, 0, 0x00000102},
		{"three ahead", five, -3, 0, 0x00000001},
		{"four ahead", five, -4, 0, 0},
		{"far ahead", five, -1 << 30, 0, 0},
		{"one byte between two missing ones", []byte{7}, -1, 0x0007, 0x00070000},
		{"high bytes", high, 0, 0xfffe, 0xfffefdfc},
		{"high bytes, one ahead", high, -1, 0x00ff, 0x00fffefd},
		{"all ones", []byte{255, 255, 255, 255}, 0, 65535, math.MaxUint32},
		{"an empty list", []byte{}, 0, 0, 0},
		{"a nil list", nil, 0, 0, 0},
		{"a nil list, ahead", nil, -1, 0, 0},
		{"a nil list, the greatest int", nil, math.MaxInt, 0, 0},
		{"a nil list, the least int", nil, math.MinInt, 0, 0},
	} {
		if got := Get16(x.b, x.at); got != x.two {
			t.Errorf("Get16, %s: %#x, want %#x", x.name, got, x.two)
		}
		if got := Get32(x.b, x.at); got != x.four {
			t.Errorf("Get32, %s: %#x, want %#x", x.name, got, x.four)
		}
	}
}

// P1.1, W1, W10: nothing wraps and nothing panics near the ends of int.
func TestGetAtTheEndsOfInt(t *testing.T) {
	b := []byte{1, 2, 3, 4, 5}
	for i := range 6 {
		for _, at := range []int{math.MaxInt - i, math.MinInt + i} {
			if two, four := Get16(b, at), Get32(b, at); two != 0 || four != 0 {
				t.Errorf("at %d: %#x, %#x", at, two, four)
			}
		}
	}
}

// P1.1: the spare room behind a list's end holds no bytes of the list.
func TestGetLeavesSpareRoomUnread(t *testing.T) {
	b := []byte{1, 2, 3, 4, 5, 6}[:1]
	if two, four := Get16(b, 0), Get32(b, 0); two != 0x0100 || four != 0x01000000 {
		t.Errorf("%#x, %#x", two, four)
	}
	if two, four := Get16(b, 1), Get32(b, 1); two != 0 || four != 0 {
		t.Errorf("%#x, %#x", two, four)
	}
}

// P1.1: n modulo 65536, the highest first.
func TestPut16(t *testing.T) {
	for _, x := range []struct {
		n    int
		want []byte
	}{
		{0, []byte{0, 0}},
		{1, []byte{0, 1}},
		{255, []byte{0, 255}},
		{256, []byte{1, 0}},
		{258, []byte{1, 2}},
		{0x8000, []byte{0x80, 0}},
		{65535, []byte{255, 255}},
		{65536, []byte{0, 0}},
		{65536 + 258, []byte{1, 2}},
		{1 << 30, []byte{0, 0}},
		{math.MaxInt, []byte{255, 255}},
		{-1, []byte{255, 255}},
		{-2, []byte{255, 254}},
		{-256, []byte{255, 0}},
		{-257, []byte{254, 255}},
		{-65535, []byte{0, 1}},
		{-65536, []byte{0, 0}},
		{-65537, []byte{255, 255}},
		{math.MinInt, []byte{0, 0}},
		{math.MinInt + 258, []byte{1, 2}},
	} {
		if got := Put16(x.n); !bytes.Equal(got, x.want) {
			t.Errorf("Put16(%d): % x, want % x", x.n, got, x.want)
		}
	}
}

// P1.1: what Put16 writes Get16 reads, for every number of two bytes.
func TestPut16ThenGet16(t *testing.T) {
	for n := range 65536 {
		b := Put16(n)
		if len(b) != 2 || Get16(b, 0) != n {
			t.Fatalf("%d: % x", n, b)
		}
		if below := Put16(n - 65536); !bytes.Equal(below, b) {
			t.Fatalf("%d: % x, want % x", n-65536, below, b)
		}
	}
}

// P1.1: the highest first, up to the greatest number.
func TestPut32(t *testing.T) {
	for _, x := range []struct {
		n    uint32
		want []byte
	}{
		{0, []byte{0, 0, 0, 0}},
		{1, []byte{0, 0, 0, 1}},
		{256, []byte{0, 0, 1, 0}},
		{1 << 16, []byte{0, 1, 0, 0}},
		{1 << 24, []byte{1, 0, 0, 0}},
		{0x01020304, []byte{1, 2, 3, 4}},
		{1 << 31, []byte{0x80, 0, 0, 0}},
		{4000000000, []byte{0xee, 0x6b, 0x28, 0}},
		{math.MaxUint32 - 1, []byte{255, 255, 255, 254}},
		{math.MaxUint32, []byte{255, 255, 255, 255}},
	} {
		got := Put32(x.n)
		if !bytes.Equal(got, x.want) {
			t.Errorf("Put32(%d): % x, want % x", x.n, got, x.want)
		}
		if back := Get32(got, 0); back != x.n {
			t.Errorf("Get32 of Put32(%d): %d", x.n, back)
		}
	}
}

// P1.1, W5: all, one behind the other; nil and empty ones add nothing.
func TestJoin(t *testing.T) {
	for _, x := range []struct {
		name string
		l    [][]byte
		want []byte
	}{
		{"a nil list of lists", nil, nil},
		{"an empty list of lists", [][]byte{}, nil},
		{"one nil", [][]byte{nil}, nil},
		{"nil and empty ones alone", [][]byte{nil, {}, nil}, nil},
		{"one", [][]byte{{1, 2}}, []byte{1, 2}},
		{"two", [][]byte{{1, 2}, {3}}, []byte{1, 2, 3}},
		{"the order is kept", [][]byte{{3}, {1, 2}, {0}}, []byte{3, 1, 2, 0}},
		{"nil and empty ones among them", [][]byte{nil, {1}, {}, {2, 3}, nil, {4}, {}}, []byte{1, 2, 3, 4}},
	} {
		if got := Join(x.l...); !bytes.Equal(got, x.want) {
			t.Errorf("%s: % x, want % x", x.name, got, x.want)
		}
	}
	if got := Join(); len(got) != 0 {
		t.Errorf("none handed in: % x", got)
	}
	b := []byte{1, 2}
	if got := Join(b, b, b); !bytes.Equal(got, []byte{1, 2, 1, 2, 1, 2}) {
		t.Errorf("one list thrice: % x", got)
	}
}

// P1.1: every byte of many lists of many sizes is where it belongs.
func TestJoinOfMany(t *testing.T) {
	var l [][]byte
	var want []byte
	for size := range 100 {
		b := make([]byte, size)
		for i := range b {
			b[i] = byte(size + i)
			want = append(want, b[i])
		}
		l = append(l, b)
	}
	if got := Join(l...); !bytes.Equal(got, want) {
		t.Errorf("%d bytes, want %d", len(got), len(want))
	}
}

// P1.1: noughts behind up to so many bytes; the bytes alone where they are as many or more.
func TestPad(t *testing.T) {
	for _, x := range []struct {
		name string
		b    []byte
		to   int
		want []byte
	}{
		{"two more", []byte{1, 2}, 4, []byte{1, 2, 0, 0}},
		{"one more", []byte{1, 2}, 3, []byte{1, 2, 0}},
		{"as many", []byte{1, 2}, 2, []byte{1, 2}},
		{"fewer", []byte{1, 2}, 1, []byte{1, 2}},
		{"to 0", []byte{1, 2}, 0, []byte{1, 2}},
		{"below 0", []byte{1, 2}, -1, []byte{1, 2}},
		{"to the least int", []byte{1, 2}, math.MinInt, []byte{1, 2}},
		{"noughts of its own", []byte{0, 1, 0}, 5, []byte{0, 1, 0, 0, 0}},
		{"a nil list", nil, 3, []byte{0, 0, 0}},
		{"a nil list to 0", nil, 0, nil},
		{"a nil list below 0", nil, -3, nil},
		{"an empty list", []byte{}, 2, []byte{0, 0}},
		{"an empty list to 0", []byte{}, 0, nil},
		{"bytes in the spare room", []byte{1, 2, 3, 4, 5}[:2], 4, []byte{1, 2, 0, 0}},
	} {
		if got := Pad(x.b, x.to); !bytes.Equal(got, x.want) {
			t.Errorf("%s: % x, want % x", x.name, got, x.want)
		}
	}
	if got := Pad([]byte{9}, 1<<16); len(got) != 1<<16 || got[0] != 9 || slices.Max(got[1:]) != 0 {
		t.Errorf("to 65536: %d bytes", len(got))
	}
}

// W1: not even a list that no machine holds makes the call panic.
func TestPadBeyondTheBound(t *testing.T) {
	for _, to := range []int{mostBytes + 1, 1 << 47, math.MaxInt} {
		if got := Pad([]byte{1, 2}, to); !bytes.Equal(got, []byte{1, 2}) {
			t.Errorf("to %d: %d bytes", to, len(got))
		}
	}
}

// whole is a list with its spare room.
func whole(b []byte) []byte { return b[:cap(b)] }

// fill makes every byte of a list, and of its spare room, n.
func fill(b []byte, n byte) {
	for i := range whole(b) {
		whole(b)[i] = n
	}
}

// checkApart tells whether an answer shares memory with what was handed in,
// spare room too: it writes all over the one and looks at the other.
func checkApart(t *testing.T, name string, answer []byte, given ...[]byte) {
	t.Helper()
	for _, g := range given {
		fill(g, 0x55)
	}
	fill(answer, 0xaa)
	for i, g := range given {
		if bytes.IndexByte(whole(g), 0xaa) >= 0 {
			t.Errorf("%s: the answer shares memory with list %d", name, i)
		}
	}
}

// P1.2: bytes and spare room stay as they were, whatever is called.
func TestNothingHandedInIsChanged(t *testing.T) {
	backing := []byte{1, 2, 3, 4, 5, 6, 7, 8, 9}
	before := slices.Clone(backing)
	a, empty := backing[:3], backing[5:5]
	for _, at := range []int{math.MinInt, -3, -1, 0, 1, 2, 3, math.MaxInt} {
		Get16(a, at)
		Get32(a, at)
	}
	for to := -1; to <= 12; to++ {
		Pad(a, to)
		Pad(empty, to)
	}
	Join(a)
	Join(a, []byte{20, 21})
	Join(empty, []byte{22, 23}, a)
	Join(a, a, empty, a)
	if !bytes.Equal(backing, before) {
		t.Errorf("% x, want % x", backing, before)
	}
}

// P1.2: the list of lists stays as it was too, with what stands behind its end.
func TestJoinLeavesTheListOfLists(t *testing.T) {
	a, b, c := []byte{1}, []byte{2, 3}, []byte{4}
	rows := [][]byte{a, nil, b, c}
	Join(rows[:3]...)
	if len(rows[0]) != 1 || &rows[0][0] != &a[0] || rows[1] != nil || len(rows[2]) != 2 || &rows[2][0] != &b[0] || len(rows[3]) != 1 || &rows[3][0] != &c[0] {
		t.Errorf("%v", rows)
	}
}

// P1.2, W6: what is answered shares no memory with what was handed in.
func TestAnswersAreNewMemory(t *testing.T) {
	spare := func() []byte { return []byte{1, 2, 3, 4, 5, 6}[:2] }
	for to := -1; to <= 8; to++ {
		a := spare()
		checkApart(t, "Pad", Pad(a, to), a)
		none := spare()[:0]
		checkApart(t, "Pad of an empty list", Pad(none, to), none)
	}
	a, b, none := spare(), spare(), spare()[:0]
	checkApart(t, "Join of one", Join(a), a)
	checkApart(t, "Join of two", Join(a, b), a, b)
	checkApart(t, "Join of one behind nil", Join(nil, a), a)
	checkApart(t, "Join of one ahead of an empty one", Join(a, none), a, none)
	checkApart(t, "Join of empty ones", Join(none, none), none)
}

// P1.2, W7: an answer stays what it is when what was handed in is changed later.
func TestAnswersStay(t *testing.T) {
	a, b := []byte{1, 2}, []byte{3}
	joined, one, padded, alone := Join(a, b), Join(a), Pad(a, 3), Pad(a, 2)
	fill(a, 9)
	fill(b, 9)
	for _, x := range []struct {
		name      string
		got, want []byte
	}{
		{"Join", joined, []byte{1, 2, 3}},
		{"Join of one", one, []byte{1, 2}},
		{"Pad", padded, []byte{1, 2, 0}},
		{"Pad to as many", alone, []byte{1, 2}},
	} {
		if !bytes.Equal(x.got, x.want) {
			t.Errorf("%s: % x, want % x", x.name, x.got, x.want)
		}
	}
}

// W2, W6, W7: two answers share nothing, and one written over does not show in the next.
func TestAnswersAreApart(t *testing.T) {
	a := []byte{1, 2}
	for _, x := range []struct {
		name string
		call func() []byte
	}{
		{"Put16", func() []byte { return Put16(258) }},
		{"Put16 of 0", func() []byte { return Put16(0) }},
		{"Put32", func() []byte { return Put32(0x01020304) }},
		{"Put32 of 0", func() []byte { return Put32(0) }},
		{"Join", func() []byte { return Join(a, a) }},
		{"Pad", func() []byte { return Pad(a, 5) }},
		{"Pad of nil", func() []byte { return Pad(nil, 5) }},
	} {
		first, second := x.call(), x.call()
		want := slices.Clone(first)
		checkApart(t, x.name, first, second)
		if third := x.call(); !bytes.Equal(third, want) {
			t.Errorf("%s: % x, want % x", x.name, third, want)
		}
	}
}
