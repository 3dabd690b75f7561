package state

import (
	"bytes"
	"math"
	"math/rand"
	"reflect"
	"slices"
	"strconv"
	"strings"
	"testing"

	"castellan/api"
	"castellan/icmp"
	"castellan/ip"
	"castellan/pack"
	"castellan/tcp"
	"castellan/udp"
)

// The flags by their bits.
const f, s, r, p, a, u = 1, 2, 4, 8, 16, 32

// letters is the flags' names, the lowest bit's first.
const letters = "FSRPAU"

// states is each state, and how long it stays.
var states = []struct {
	name  string
	n     int
	ticks int
}{
	{"TcpSyn", api.TcpSyn, 30},
	{"TcpAck", api.TcpAck, 30},
	{"TcpOpen", api.TcpOpen, 3600},
	{"TcpFin", api.TcpFin, 60},
	{"TcpFinB", api.TcpFinB, 60},
	{"TcpClosed", api.TcpClosed, 5},
	{"UdpOne", api.UdpOne, 30},
	{"UdpBoth", api.UdpBoth, 60},
	{"IcmpQuery", api.IcmpQuery, 10},
	{"Other", api.Other, 30},
}

// ofTCP is the states of TCP.
var ofTCP = []int{api.TcpSyn, api.TcpAck, api.TcpOpen, api.TcpFin, api.TcpFinB, api.TcpClosed}

// ways is P16.2's ways on in plain words: who sent what comes, which flags it must
// have, which it may not have, and what is next. No two of them hold at once.
var ways = []struct {
	state     int
	who       string // "asker", "asked" or "each"
	must, not string
	next      int
}{
	{api.UdpOne, "asked", "", "", api.UdpBoth},
	{api.TcpSyn, "each", "R", "", api.TcpClosed},
	{api.TcpAck, "each", "R", "", api.TcpClosed},
	{api.TcpOpen, "each", "R", "", api.TcpClosed},
	{api.TcpFin, "each", "R", "", api.TcpClosed},
	{api.TcpFinB, "each", "R", "", api.TcpClosed},
	{api.TcpClosed, "each", "R", "", api.TcpClosed},
	{api.TcpSyn, "asked", "SA", "R", api.TcpAck},
	{api.TcpAck, "asker", "A", "SR", api.TcpOpen},
	{api.TcpOpen, "asker", "F", "R", api.TcpFin},
	{api.TcpOpen, "asked", "F", "R", api.TcpFinB},
	{api.TcpFin, "asked", "F", "R", api.TcpClosed},
	{api.TcpFinB, "asker", "F", "R", api.TcpClosed},
}

// beyond is bits of Flags that are none of the six: above them, far above, all of
// those, and the one that makes a number less than 0.
var beyond = []int{0, 64, 128, 256, 1 << 16, 1 << 31, 1 << 32, 1 << 33, 1 << 36, 1 << 62, math.MinInt, math.MinInt + 64, -64, -128, -1 << 32, math.MaxInt - 63}

// wild is numbers that are nothing here, some of them such by their lower bits alone.
var wild = []int{math.MinInt, math.MinInt + 1, math.MinInt32, -1 << 32, -1<<32 + 1, -1<<32 + 6, -256, -10, -2, -1, 256, 257, 256 + 6, 256 + 17, 1 << 16, 1<<16 + 2, 1<<31 + 6, 1 << 32, 1<<32 + 1, 1<<32 + 2, 1<<32 + 3, 1<<32 + 6, 1<<32 + 7, 1<<32 + 8, 1<<32 + 13, 1<<32 + 17, math.MaxInt32, math.MaxInt - 1, math.MaxInt}

// names is the flags that a number has, by their letters.
func names(flags int) string {
	b := strings.Repeat("0", 64) + strconv.FormatUint(uint64(flags), 2)
	has := ""
	for i, c := range letters {
		if b[len(b)-1-i] == '1' {
			has += string(c)
		}
	}
	return has
}

// has tells whether all of some letters are among others.
func has(l, asked string) bool {
	for _, c := range asked {
		if !strings.ContainsRune(l, c) {
			return false
		}
	}
	return true
}

// plainStep is P16.2 in plain words.
func plainStep(t *testing.T, state int, back bool, flags int) int {
	t.Helper()
	who, l := "asker", names(flags)
	if back {
		who = "asked"
	}
	next, n := state, 0
	for _, w := range ways {
		if w.state == state && (w.who == "each" || w.who == who) && has(l, w.must) && !strings.ContainsAny(l, w.not) {
			next = w.next
			n++
		}
	}
	if n > 1 {
		t.Fatal("two ways on", state, back, flags)
	}
	return next
}

// plainBegin is P16.1 in plain words.
func plainBegin(q api.Packet) (int, bool) {
	if q.Class == 2 {
		return 0, false
	}
	if q.IP.Proto == 17 {
		return api.UdpOne, true
	}
	if q.IP.Proto == 1 {
		if slices.Contains([]int{8, 13}, q.Type) {
			return api.IcmpQuery, true
		}
		return 0, false
	}
	if q.IP.Proto != 6 {
		return api.Other, true
	}
	if l := names(q.Flags); strings.Contains(l, "S") && !strings.ContainsAny(l, "ARF") {
		return api.TcpSyn, true
	}
	return 0, false
}

// begins holds Begin to a state.
func begins(t *testing.T, q api.Packet, want int) {
	t.Helper()
	if n, ok := Begin(q); n != want || !ok {
		t.Error(q.IP.Proto, q.Class, q.Flags, q.Type, "begins as", n, ok, "not as", want)
	}
}

// beginsNot holds Begin to none.
func beginsNot(t *testing.T, q api.Packet) {
	t.Helper()
	if n, ok := Begin(q); n != 0 || ok {
		t.Error(q.IP.Proto, q.Class, q.Flags, q.Type, "begins as", n, ok)
	}
}

// steps holds Step to a state.
func steps(t *testing.T, state int, back bool, flags, want int) {
	t.Helper()
	if n := Step(state, back, flags); n != want {
		t.Errorf("Step(%d, %v, %d %s) is %d, not %d", state, back, flags, names(flags), n, want)
	}
}

// of is a packet of a protocol.
func of(proto int) api.Packet { return api.Packet{IP: api.IP{Proto: proto}} }

// P16.1: a TCP flow begins by each Flags that have SYN and none of ACK, RST, FIN.
func TestBeginTCP(t *testing.T) {
	may := []int{s, s | p, s | u, s | p | u}
	for flags := range 64 {
		for _, class := range []int{api.Whole, api.First} {
			q := api.Packet{IP: api.IP{Proto: 6}, Class: class, Flags: flags}
			if slices.Contains(may, flags) {
				begins(t, q, api.TcpSyn)
			} else {
				beginsNot(t, q)
			}
			q.Class = api.Later
			beginsNot(t, q)
		}
	}
}

// P16.1: bits that are no flags neither begin a flow nor keep it from beginning.
func TestBeginOtherBits(t *testing.T) {
	for _, b := range beyond {
		for flags := range 64 {
			q := api.Packet{IP: api.IP{Proto: 6}, Flags: b | flags}
			if has(names(flags), "S") && !strings.ContainsAny(names(flags), "ARF") {
				begins(t, q, api.TcpSyn)
			} else {
				beginsNot(t, q)
			}
		}
	}
	for _, flags := range []int{-1, math.MaxInt, math.MinInt, 0, 64, 128} {
		beginsNot(t, api.Packet{IP: api.IP{Proto: 6}, Flags: flags})
	}
}

// P16.1: a TCP flow's Type, and a UDP flow's Flags and Type, are not asked.
func TestBeginNotAsked(t *testing.T) {
	for n := range 256 {
		begins(t, api.Packet{IP: api.IP{Proto: 6}, Flags: s, Type: n}, api.TcpSyn)
		beginsNot(t, api.Packet{IP: api.IP{Proto: 6}, Flags: s | a, Type: n})
		for _, class := range []int{api.Whole, api.First} {
			begins(t, api.Packet{IP: api.IP{Proto: 17}, Class: class, Flags: n}, api.UdpOne)
			begins(t, api.Packet{IP: api.IP{Proto: 17}, Class: class, Type: n}, api.UdpOne)
			begins(t, api.Packet{IP: api.IP{Proto: 17}, Class: class, Flags: n, Type: 255 - n}, api.UdpOne)
			begins(t, api.Packet{IP: api.IP{Proto: 50}, Class: class, Flags: n, Type: 255 - n}, api.Other)
		}
		beginsNot(t, api.Packet{IP: api.IP{Proto: 17}, Class: api.Later, Flags: n, Type: n})
		beginsNot(t, api.Packet{IP: api.IP{Proto: 1}, Flags: n, Type: 0})
		begins(t, api.Packet{IP: api.IP{Proto: 1}, Flags: n, Type: 8}, api.IcmpQuery)
	}
}

// P16.1: an ICMP flow begins by Type 8 and 13, not by what answers them, nor by an
// error.
func TestBeginICMP(t *testing.T) {
	for n := range 256 {
		for _, class := range []int{api.Whole, api.First} {
			q := api.Packet{IP: api.IP{Proto: 1}, Class: class, Type: n}
			if n == 8 || n == 13 {
				begins(t, q, api.IcmpQuery)
			} else {
				beginsNot(t, q)
			}
		}
		beginsNot(t, api.Packet{IP: api.IP{Proto: 1}, Class: api.Later, Type: n})
	}
	for _, n := range append([]int{-8, -13, 8 + 256, 13 + 256, 8 - 256, 13 - 256, 8 + 1<<16, 13 - 1<<32}, wild...) {
		beginsNot(t, api.Packet{IP: api.IP{Proto: 1}, Type: n})
	}
	for _, code := range append([]int{1, 2, 8, 13, 255}, wild...) {
		begins(t, api.Packet{IP: api.IP{Proto: 1}, Type: 8, Code: code}, api.IcmpQuery)
		begins(t, api.Packet{IP: api.IP{Proto: 1}, Type: 13, Code: code}, api.IcmpQuery)
		beginsNot(t, api.Packet{IP: api.IP{Proto: 1}, Type: 14, Code: code})
	}
}

// P16.1: each other protocol's flow begins, numbers that are no protocol too.
func TestBeginOthers(t *testing.T) {
	all := slices.Clone(wild)
	for n := range 256 {
		all = append(all, n)
	}
	for _, proto := range all {
		if proto == 1 || proto == 6 || proto == 17 {
			continue
		}
		for _, class := range []int{api.Whole, api.First} {
			for _, n := range []int{0, s, s | a, 8, 13, -1} {
				begins(t, api.Packet{IP: api.IP{Proto: proto}, Class: class, Flags: n, Type: n}, api.Other)
			}
		}
		beginsNot(t, api.Packet{IP: api.IP{Proto: proto}, Class: api.Later})
	}
}

// P16.1: what is no Later fragment by its Class is none, whatever its Off and MF are,
// and so is a number that is no class.
func TestBeginClass(t *testing.T) {
	for _, class := range append([]int{0, 1, 3}, wild...) {
		for _, off := range []int{0, 1, 8191} {
			for _, more := range []bool{false, true} {
				h := api.IP{Off: off, MF: more}
				for proto, want := range map[int]int{1: api.IcmpQuery, 6: api.TcpSyn, 17: api.UdpOne, 2: api.Other} {
					h.Proto = proto
					begins(t, api.Packet{IP: h, Class: class, Flags: s, Type: 8}, want)
					beginsNot(t, api.Packet{IP: h, Class: api.Later, Flags: s, Type: 8})
				}
			}
		}
	}
}

// P16.1, W2: whatever else a packet has, its words alone count.
func TestBeginRandom(t *testing.T) {
	random := rand.New(rand.NewSource(16))
	seen := map[int]int{}
	for range 200000 {
		q := randomPacket(random)
		n, ok := Begin(q)
		want, may := plainBegin(q)
		if n != want || ok != may {
			t.Fatal(q, n, ok, want, may)
		}
		seen[n]++
		bare := api.Packet{IP: api.IP{Proto: q.IP.Proto}, Class: q.Class, Flags: q.Flags, Type: q.Type}
		if m, fine := Begin(bare); m != n || fine != ok {
			t.Fatal(q, "by itself", m, fine, "not", n, ok)
		}
	}
	for _, n := range []int{0, api.TcpSyn, api.UdpOne, api.IcmpQuery, api.Other} {
		if seen[n] < 1000 {
			t.Error(n, "came but", seen[n], "times")
		}
	}
	if len(seen) != 5 {
		t.Error(seen)
	}
}

// randomPacket is a packet of any fields.
func randomPacket(random *rand.Rand) api.Packet {
	q := api.Packet{
		IP: api.IP{
			TOS: random.Intn(256), ID: random.Intn(1 << 16), DF: random.Intn(2) == 0, MF: random.Intn(2) == 0,
			Off: random.Intn(8192), TTL: random.Intn(256), Proto: []int{1, 6, 17, random.Intn(256)}[random.Intn(4)],
			Src: random.Uint32(), Dst: random.Uint32(), Options: []byte{1, 1, 1, 1}, Data: make([]byte, random.Intn(40)),
		},
		Class: random.Intn(3),
		Src:   random.Intn(1 << 16),
		Dst:   random.Intn(1 << 16),
		Flags: random.Intn(64) | beyond[random.Intn(len(beyond))],
		Type:  random.Intn(16),
		Code:  random.Intn(256),
	}
	if random.Intn(2) == 0 {
		q.Inner = &api.Key{Proto: 6, Src: random.Uint32(), Dst: random.Uint32(), A: 1, B: 2}
	}
	if random.Intn(8) == 0 {
		q.Type = wild[random.Intn(len(wild))]
	}
	return q
}

// P16.2: the example of the chapter.
func TestStepExample(t *testing.T) {
	steps(t, api.TcpSyn, true, s|a, api.TcpAck)
}

// P16.2: each way on by itself, and each thing that is missing or too much.
func TestStepWays(t *testing.T) {
	for i, x := range []struct {
		state int
		back  bool
		flags int
		want  int
	}{
		{api.TcpSyn, true, s | a, api.TcpAck},
		{api.TcpSyn, true, s | a | p | u, api.TcpAck},
		{api.TcpSyn, true, s | a | f, api.TcpAck},
		{api.TcpSyn, false, s | a, api.TcpSyn},
		{api.TcpSyn, true, s, api.TcpSyn},
		{api.TcpSyn, true, a, api.TcpSyn},
		{api.TcpSyn, false, s, api.TcpSyn},
		{api.TcpSyn, true, 0, api.TcpSyn},
		{api.TcpSyn, true, f, api.TcpSyn},
		{api.TcpSyn, false, f | a, api.TcpSyn},
		{api.TcpSyn, true, s | a | r, api.TcpClosed},
		{api.TcpSyn, true, r, api.TcpClosed},
		{api.TcpSyn, false, r, api.TcpClosed},
		{api.TcpAck, false, a, api.TcpOpen},
		{api.TcpAck, false, a | p | u, api.TcpOpen},
		{api.TcpAck, false, a | f, api.TcpOpen},
		{api.TcpAck, true, a, api.TcpAck},
		{api.TcpAck, false, a | s, api.TcpAck},
		{api.TcpAck, false, s, api.TcpAck},
		{api.TcpAck, false, 0, api.TcpAck},
		{api.TcpAck, false, f, api.TcpAck},
		{api.TcpAck, true, f | a, api.TcpAck},
		{api.TcpAck, true, s | a, api.TcpAck},
		{api.TcpAck, false, a | r, api.TcpClosed},
		{api.TcpAck, true, r, api.TcpClosed},
		{api.TcpOpen, false, f, api.TcpFin},
		{api.TcpOpen, false, f | a, api.TcpFin},
		{api.TcpOpen, false, f | s | p | a | u, api.TcpFin},
		{api.TcpOpen, true, f, api.TcpFinB},
		{api.TcpOpen, true, f | a, api.TcpFinB},
		{api.TcpOpen, true, f | s | p | a | u, api.TcpFinB},
		{api.TcpOpen, false, a, api.TcpOpen},
		{api.TcpOpen, true, a, api.TcpOpen},
		{api.TcpOpen, true, s | a, api.TcpOpen},
		{api.TcpOpen, false, s, api.TcpOpen},
		{api.TcpOpen, false, f | r, api.TcpClosed},
		{api.TcpOpen, true, f | r, api.TcpClosed},
		{api.TcpFin, true, f, api.TcpClosed},
		{api.TcpFin, true, f | a, api.TcpClosed},
		{api.TcpFin, false, f, api.TcpFin},
		{api.TcpFin, false, f | a, api.TcpFin},
		{api.TcpFin, true, a, api.TcpFin},
		{api.TcpFin, true, s | a, api.TcpFin},
		{api.TcpFin, false, r, api.TcpClosed},
		{api.TcpFin, true, r, api.TcpClosed},
		{api.TcpFinB, false, f, api.TcpClosed},
		{api.TcpFinB, false, f | a, api.TcpClosed},
		{api.TcpFinB, true, f, api.TcpFinB},
		{api.TcpFinB, true, f | a, api.TcpFinB},
		{api.TcpFinB, false, a, api.TcpFinB},
		{api.TcpFinB, false, s | a, api.TcpFinB},
		{api.TcpFinB, false, r, api.TcpClosed},
		{api.TcpFinB, true, r, api.TcpClosed},
		{api.UdpOne, true, 0, api.UdpBoth},
		{api.UdpOne, true, r, api.UdpBoth},
		{api.UdpOne, true, -1, api.UdpBoth},
		{api.UdpOne, false, 0, api.UdpOne},
		{api.UdpOne, false, r, api.UdpOne},
		{api.UdpBoth, true, 0, api.UdpBoth},
		{api.UdpBoth, false, r, api.UdpBoth},
		{api.IcmpQuery, true, 0, api.IcmpQuery},
		{api.IcmpQuery, true, r, api.IcmpQuery},
		{api.IcmpQuery, false, r, api.IcmpQuery},
		{api.Other, true, 0, api.Other},
		{api.Other, false, r, api.Other},
		{0, true, r, 0},
		{0, true, s | a, 0},
		{-1, true, r, -1},
		{11, true, r, 11},
	} {
		if n := Step(x.state, x.back, x.flags); n != x.want {
			t.Error(i, x, n)
		}
	}
}

// P16.2: every state from below the first to above the last, from both sides, with
// every value of Flags, and with other bits set.
func TestStepAll(t *testing.T) {
	count := map[[2]int]int{}
	for state := -3; state <= 13; state++ {
		for _, back := range []bool{false, true} {
			for flags := range 64 {
				want := plainStep(t, state, back, flags)
				count[[2]int{state, want}]++
				for _, b := range beyond {
					steps(t, state, back, b|flags, want)
				}
			}
			for _, flags := range []int{math.MinInt, -65, -64, -63, -2, -1, 63, 64, 65, math.MaxInt - 1, math.MaxInt} {
				steps(t, state, back, flags, plainStep(t, state, back, flags))
			}
		}
	}
	for from, n := range map[[2]int]int{
		{1, 1}: 128 - 64 - 8, {1, 2}: 8, {1, 6}: 64,
		{2, 2}: 128 - 64 - 8, {2, 3}: 8, {2, 6}: 64,
		{3, 3}: 32, {3, 4}: 16, {3, 5}: 16, {3, 6}: 64,
		{4, 4}: 48, {4, 6}: 80,
		{5, 5}: 48, {5, 6}: 80,
		{6, 6}: 128,
		{7, 7}: 64, {7, 8}: 64,
		{8, 8}: 128, {9, 9}: 128, {10, 10}: 128,
	} {
		if count[from] != n {
			t.Error(from, count[from], n)
		}
	}
}

// P16.2: a number that is no state stays, whatever its lower bits are.
func TestStepNoState(t *testing.T) {
	for _, x := range states {
		for _, n := range []int{-x.n, x.n + 16, x.n + 256, x.n - 256, x.n + 1<<16, x.n + 1<<32, x.n - 1<<32, x.n | math.MinInt} {
			for _, back := range []bool{false, true} {
				for flags := range 64 {
					steps(t, n, back, flags, n)
				}
			}
		}
	}
	for _, n := range wild {
		for _, back := range []bool{false, true} {
			for flags := range 64 {
				steps(t, n, back, flags, n)
				steps(t, n, back, flags-64, n)
			}
		}
	}
}

// P16.3: of every state, and of numbers that are none.
func TestTicks(t *testing.T) {
	known := map[int]bool{}
	for i, x := range states {
		if x.n != i+1 {
			t.Error(x.name)
		}
		known[x.n] = true
		if n := Ticks(x.n); n != x.ticks {
			t.Error(x.name, n, x.ticks)
		}
		for _, n := range []int{-x.n, x.n + 16, x.n + 256, x.n - 256, x.n + 1<<16, x.n + 1<<32, x.n - 1<<32, x.n | math.MinInt} {
			if Ticks(n) != 0 {
				t.Error(n, Ticks(n))
			}
		}
	}
	for n := -5000; n <= 5000; n++ {
		if !known[n] && Ticks(n) != 0 {
			t.Error(n, Ticks(n))
		}
	}
	for _, n := range wild {
		if Ticks(n) != 0 {
			t.Error(n, Ticks(n))
		}
	}
}

// P16.4: TcpClosed stays, whatever comes from either side.
func TestClosedStays(t *testing.T) {
	for _, back := range []bool{false, true} {
		for flags := range 64 {
			for _, b := range beyond {
				steps(t, api.TcpClosed, back, b|flags, api.TcpClosed)
			}
		}
		for _, flags := range wild {
			steps(t, api.TcpClosed, back, flags, api.TcpClosed)
		}
	}
}

// P16.4: whatever comes, a flow's state stays one of its protocol, and each of those
// is come to.
func TestReached(t *testing.T) {
	for _, x := range []struct{ from, all []int }{
		{[]int{api.TcpSyn}, ofTCP},
		{[]int{api.UdpOne}, []int{api.UdpOne, api.UdpBoth}},
		{[]int{api.IcmpQuery}, []int{api.IcmpQuery}},
		{[]int{api.Other}, []int{api.Other}},
	} {
		l := slices.Clone(x.from)
		for i := 0; i < len(l); i++ {
			for flags := range 64 {
				for _, back := range []bool{false, true} {
					if n := Step(l[i], back, flags); !slices.Contains(l, n) {
						l = append(l, n)
					}
				}
			}
		}
		slices.Sort(l)
		if !slices.Equal(l, x.all) {
			t.Error(x.from, l)
		}
	}
}

// P16.4, P16.2: along many rows of segments a TCP state stays one, is what the words
// say, and never goes back.
func TestRows(t *testing.T) {
	random := rand.New(rand.NewSource(164))
	seen := map[int]int{}
	// How far a flow has come: each FIN is as far as the other.
	far := map[int]int{api.TcpSyn: 0, api.TcpAck: 1, api.TcpOpen: 2, api.TcpFin: 3, api.TcpFinB: 3, api.TcpClosed: 4}
	for range 5000 {
		state, closed := api.TcpSyn, false
		for range 60 {
			back, flags := random.Intn(2) == 0, randomFlags(random)
			want := plainStep(t, state, back, flags)
			next := Step(state, back, flags)
			if next != want {
				t.Fatal(state, back, flags, next, want)
			}
			if !slices.Contains(ofTCP, next) || far[next] < far[state] || next != state && far[next] == far[state] {
				t.Fatal(state, "goes to", next)
			}
			if closed && next != api.TcpClosed {
				t.Fatal("open again", next)
			}
			closed = next == api.TcpClosed
			state = next
			seen[state]++
		}
	}
	for _, n := range ofTCP {
		if seen[n] < 1000 {
			t.Error(n, "came but", seen[n], "times")
		}
	}
}

// randomFlags is flags among which a reset is rare, with bits beyond them at times.
func randomFlags(random *rand.Rand) int {
	flags := random.Intn(64)
	if random.Intn(16) != 0 {
		flags &^= r
	}
	if random.Intn(4) != 0 {
		flags &^= f
	}
	if random.Intn(4) == 0 {
		flags |= beyond[random.Intn(len(beyond))]
	}
	return flags
}

// P16.1, P16.2: a connection's packets, as package pack tells them, from its first to
// its last.
func TestConnection(t *testing.T) {
	state, ok := Begin(segment(t, s))
	if !ok || state != api.TcpSyn {
		t.Fatal(state, ok)
	}
	for i, x := range []struct {
		back  bool
		flags int
		want  int
	}{
		{false, s, api.TcpSyn},
		{true, s | a, api.TcpAck},
		{true, s | a, api.TcpAck},
		{false, s, api.TcpAck},
		{false, a, api.TcpOpen},
		{true, s | a, api.TcpOpen},
		{false, a | p, api.TcpOpen},
		{true, a, api.TcpOpen},
		{true, f | a, api.TcpFinB},
		{true, f | a, api.TcpFinB},
		{false, a, api.TcpFinB},
		{false, f | a, api.TcpClosed},
		{true, a, api.TcpClosed},
		{false, s, api.TcpClosed},
	} {
		state = Step(state, x.back, segment(t, x.flags).Flags)
		if state != x.want {
			t.Fatal(i, state)
		}
	}
	beginsNot(t, segment(t, s|a))
	beginsNot(t, segment(t, a))
	beginsNot(t, segment(t, s|f))
	beginsNot(t, segment(t, s|r))
}

// P16.1: messages and datagrams, as package pack tells them.
func TestParsed(t *testing.T) {
	for n := range 256 {
		b, e := icmp.Build(api.Message{Type: n, Rest: 7 << 16})
		q := parsed(t, api.IP{Proto: api.ICMP, Data: b}, e)
		if n == 8 || n == 13 {
			begins(t, q, api.IcmpQuery)
		} else {
			beginsNot(t, q)
		}
	}
	b, e := udp.Build(1, 2, api.Datagram{Src: 3, Dst: 4, Data: make([]byte, 8)})
	begins(t, parsed(t, api.IP{Proto: api.UDP, Src: 1, Dst: 2, Data: b}, e), api.UdpOne)
	begins(t, parsed(t, api.IP{Proto: api.UDP, Src: 1, Dst: 2, MF: true, Data: b}, e), api.UdpOne)
	beginsNot(t, parsed(t, api.IP{Proto: api.UDP, Src: 1, Dst: 2, MF: true, Off: 1, Data: b}, e))
	beginsNot(t, parsed(t, api.IP{Proto: api.UDP, Src: 1, Dst: 2, Off: 2, Data: b}, e))
	begins(t, parsed(t, api.IP{Proto: 47, Data: b}, api.OK), api.Other)
	beginsNot(t, parsed(t, api.IP{Proto: 47, Off: 9, Data: b}, api.OK))
}

// segment is a TCP packet with these flags, as package pack tells it.
func segment(t *testing.T, flags int) api.Packet {
	t.Helper()
	b, e := tcp.Build(1, 2, api.Segment{Src: 1000, Dst: 80, Seq: 5, Flags: flags})
	return parsed(t, api.IP{Proto: api.TCP, Src: 1, Dst: 2, Data: b}, e)
}

// parsed is a packet, built and told by package pack.
func parsed(t *testing.T, h api.IP, e api.Errno) api.Packet {
	t.Helper()
	h.TTL = 64
	b, bad := ip.Build(h)
	q, wrong := pack.Parse(b)
	if e != api.OK || bad != api.OK || wrong != api.OK {
		t.Fatal(e, bad, wrong)
	}
	return q
}

// W6: no call changes what is handed in, nor the spare room behind it.
func TestNothingIsChanged(t *testing.T) {
	random := rand.New(rand.NewSource(166))
	for range 5000 {
		q := randomPacket(random)
		room := []byte{1, 2, 3, 4, 5, 6, 7, 8, 9, 10, 11, 12}
		q.IP.Options, q.IP.Data = room[:4], room[6:9]
		was, inner, about := bytes.Clone(room), q.Inner, api.Key{}
		if inner != nil {
			about = *inner
		}
		before := q
		Begin(q)
		if !bytes.Equal(room, was) || !reflect.DeepEqual(q, before) || q.Inner != inner {
			t.Fatal(q, before, room)
		}
		if inner != nil && *inner != about {
			t.Fatal(*inner, about)
		}
	}
}

// W5: nil options and data are as empty ones.
func TestNilAndEmpty(t *testing.T) {
	for _, proto := range []int{1, 6, 17, 50} {
		q := api.Packet{IP: api.IP{Proto: proto}, Flags: s, Type: 8}
		e := q
		e.IP.Options, e.IP.Data = []byte{}, []byte{}
		n, ok := Begin(q)
		if m, fine := Begin(e); m != n || fine != ok || !ok {
			t.Error(proto, n, ok, m, fine)
		}
	}
}

// W1, W2, W7: every call ends at any numbers, and answers the same again, whatever was
// called between.
func TestAgain(t *testing.T) {
	all := append([]int{0, 1, 2, 3, 4, 5, 6, 7, 8, 9, 10, 11, 13, 17, 63}, wild...)
	type row struct {
		begin int
		ok    bool
		step  [2]int
		ticks int
	}
	ask := func(i, j int) row {
		q := api.Packet{IP: api.IP{Proto: i}, Class: j, Flags: i, Type: j}
		n, ok := Begin(q)
		return row{n, ok, [2]int{Step(i, false, j), Step(i, true, j)}, Ticks(i)}
	}
	first := map[[2]int]row{}
	for _, i := range all {
		for _, j := range all {
			first[[2]int{i, j}] = ask(i, j)
		}
	}
	for at, was := range first {
		if ask(at[0], at[1]) != was {
			t.Error(at, was)
		}
	}
}
