package rule

import (
	"fmt"
	"math"
	"math/rand"
	"net/netip"
	"reflect"
	"regexp"
	"slices"
	"strconv"
	"strings"
	"testing"
	"unsafe"

	"castellan/addr"
	"castellan/api"
)

// alphabet is what a name may be made of.
const alphabet = "abcdefghijklmnopqrstuvwxyz0123456789"

// keywords are all words that are told as they stand.
var keywords = []string{"pass", "block", "return", "quick", "on", "proto", "icmp", "tcp", "udp", "from", "to", "any", "port", "flags", "type", "keep", "route-to", "reply-to", "table"}

// wild is numbers that are none of a rule's, some of them such by their lower
// bits alone.
var wild = []int{math.MinInt, math.MinInt32, -1 << 32, -1<<32 + 1, -1<<32 + 6, -65536, -256, -64, -2, 65536, 65537, 1 << 31, 1 << 32, 1<<32 + 1, 1<<32 + 3, 1<<32 + 6, 1<<32 + 17, 1<<32 + 80, math.MaxInt32, math.MaxInt}

// every is the ports of which nothing is said.
var every = api.Ports{Low: 0, High: 65535}

// whole is a side of all.
var whole = api.Side{Any: true, Ports: every}

// plain is a rule of which nothing is said but that it passes, or blocks.
func plain(pass bool) api.Rule {
	return api.Rule{Pass: pass, From: whole, To: whole, Type: -1}
}

// but is a rule with a change.
func but(r api.Rule, change func(*api.Rule)) api.Rule {
	change(&r)
	return r
}

// with is a rule that passes, with a change.
func with(change func(*api.Rule)) api.Rule { return but(plain(true), change) }

// of4 is an address by its parts.
func of4(a, b, c, d uint32) uint32 { return a<<24 | b<<16 | c<<8 | d }

// px is a text as a prefix.
func px(t *testing.T, s string) api.Prefix {
	t.Helper()
	p, e := addr.ParsePrefix(s)
	if e != api.OK {
		t.Fatal(s)
	}
	return p
}

// named tells whether a text is a name, by its words.
func named(s string) bool {
	return len(s) >= 1 && len(s) <= 8 && strings.Trim(s, alphabet) == ""
}

// faults is each of the chapter's words that a rule doesn't hold.
func faults(r api.Rule) []string {
	var l []string
	rule := func(held bool, what string) {
		if !held {
			l = append(l, what)
		}
	}
	ported := r.Proto == 6 || r.Proto == 17
	rule(!r.Return || !r.Pass, "return")
	rule(!r.Keep || r.Pass, "keep")
	rule(!r.RouteTo.On || r.Pass, "route-to of a block")
	rule(!r.ReplyTo.On || r.Pass, "reply-to of a block")
	rule(r.Table == 0 || r.Pass, "table of a block")
	rule(r.On == "" || named(r.On), "on")
	rule(r.Proto >= 0 && r.Proto <= 255, "proto")
	for _, s := range []api.Side{r.From, r.To} {
		switch {
		case s.Any:
			rule(s.Table == "", "any with a table")
			rule(s.Prefix.Addr == 0 && s.Prefix.Len == 0, "any with a prefix")
		case s.Table != "":
			rule(named(s.Table), "table's name")
			rule(s.Prefix.Addr == 0 && s.Prefix.Len == 0, "table with a prefix")
		default:
			rule(s.Prefix.Len >= 0 && s.Prefix.Len <= 32 && uint64(s.Prefix.Addr)%(1<<(32-s.Prefix.Len)) == 0, "prefix")
		}
		rule(s.Ports.Low >= 0 && s.Ports.Low <= 65535 && s.Ports.High >= 0 && s.Ports.High <= 65535, "ports")
		rule(s.Ports.Low <= s.Ports.High, "low above high")
		rule(s.Ports.Low == 0 && s.Ports.High == 65535 || ported, "ports of another")
	}
	rule(r.Mask >= 0 && r.Mask <= 63, "mask")
	rule(r.Set|r.Mask == r.Mask, "set")
	rule(r.Set == 0 && r.Mask == 0 || r.Proto == 6, "flags of another")
	rule(r.Type >= -1 && r.Type <= 255, "type")
	rule(r.Type == -1 || r.Proto == 1, "type of another")
	for _, p := range []api.Pin{r.RouteTo, r.ReplyTo} {
		rule(!p.On || named(p.Iface), "pin's name")
		rule(p.On || p.Iface == "" && p.Gate == 0, "pin that isn't on")
	}
	rule(r.Table >= 0 && r.Table <= 3, "table")
	return l
}

// allFaults is what faults tells of.
var allFaults = []string{"return", "keep", "route-to of a block", "reply-to of a block", "table of a block", "on", "proto", "any with a table", "any with a prefix", "table's name", "table with a prefix", "prefix", "ports", "low above high", "ports of another", "mask", "set", "flags of another", "type", "type of another", "pin's name", "pin that isn't on", "table"}

// dotted is an address as a text.
func dotted(a uint32) string {
	return fmt.Sprintf("%d.%d.%d.%d", a>>24, a>>16&255, a>>8&255, a&255)
}

// sayFlags is flags as P14.1 tells them.
func sayFlags(n int) string {
	s := ""
	for _, x := range []struct {
		flag   int
		letter string
	}{{api.FlagFin, "F"}, {api.FlagSyn, "S"}, {api.FlagRst, "R"}, {api.FlagPsh, "P"}, {api.FlagAck, "A"}, {api.FlagUrg, "U"}} {
		if n&x.flag != 0 {
			s += x.letter
		}
	}
	if s == "" {
		return "-"
	}
	return s
}

// sayEnd is a side without its ports as P14.1 tells it.
func sayEnd(s api.Side) string {
	if s.Any {
		return "any"
	}
	if s.Table != "" {
		return "<" + s.Table + ">"
	}
	return fmt.Sprintf("%s/%d", dotted(s.Prefix.Addr), s.Prefix.Len)
}

// saySide is a side as P14.1 tells it.
func saySide(s api.Side) string {
	if s.Ports == every {
		return sayEnd(s)
	}
	if s.Ports.Low == s.Ports.High {
		return fmt.Sprintf("%s port %d", sayEnd(s), s.Ports.Low)
	}
	return fmt.Sprintf("%s port %d:%d", sayEnd(s), s.Ports.Low, s.Ports.High)
}

// say is a rule that may be as P14.1 tells it.
func say(r api.Rule) string { return sayWith(r, saySide) }

// sayWith is a rule that may be, with sides told in a way.
func sayWith(r api.Rule, side func(api.Side) string) string {
	s := "block"
	if r.Pass {
		s = "pass"
	}
	if r.Return {
		s += " return"
	}
	if r.Quick {
		s += " quick"
	}
	if r.On != "" {
		s += " on " + r.On
	}
	switch r.Proto {
	case 0:
	case 1:
		s += " proto icmp"
	case 6:
		s += " proto tcp"
	case 17:
		s += " proto udp"
	default:
		s += fmt.Sprintf(" proto %d", r.Proto)
	}
	s += " from " + side(r.From) + " to " + side(r.To)
	if r.Mask != 0 {
		s += " flags " + sayFlags(r.Set) + "/" + sayFlags(r.Mask)
	}
	if r.Type != -1 {
		s += fmt.Sprintf(" type %d", r.Type)
	}
	if r.Keep {
		s += " keep"
	}
	if r.RouteTo.On {
		s += " route-to " + r.RouteTo.Iface + " " + dotted(r.RouteTo.Gate)
	}
	if r.ReplyTo.On {
		s += " reply-to " + r.ReplyTo.Iface + " " + dotted(r.ReplyTo.Gate)
	}
	if r.Table != 0 {
		s += fmt.Sprintf(" table %d", r.Table)
	}
	return s
}

// form is P14.2's words in their order; what stands in them is for read to ask.
var form = regexp.MustCompile(`^ *(pass|block)( +return)?( +quick)?(?: +on +([a-z0-9]{1,8}))?(?: +proto +(icmp|tcp|udp|[1-9][0-9]{0,2}))?` +
	sideForm("from") + sideForm("to") +
	`(?: +flags +(-|F?S?R?P?A?U?)/(F?S?R?P?A?U?))?(?: +type +(0|[1-9][0-9]{0,2}))?( +keep)?` + pinForm("route-to") + pinForm("reply-to") + `(?: +table +([1-3]))? *$`)

func sideForm(word string) string {
	const number = `(0|[1-9][0-9]{0,4})`
	return ` +` + word + ` +(?:(any)|<([a-z0-9]{1,8})>|([0-9./]+))(?: +port +` + number + `(?::` + number + `)?)?`
}

func pinForm(word string) string { return `(?: +` + word + ` +([a-z0-9]{1,8}) +([0-9.]+))?` }

// reader takes what form has found, group by group.
type reader struct {
	m   []string
	bad bool
}

func (w *reader) next() string {
	s := w.m[0]
	w.m = w.m[1:]
	return s
}

func (w *reader) hold(ok bool) {
	if !ok {
		w.bad = true
	}
}

func (w *reader) number(none int) int {
	s := w.next()
	if s == "" {
		return none
	}
	n, _ := strconv.Atoi(s)
	return n
}

func (w *reader) proto() int {
	switch s := w.next(); s {
	case "":
		return 0
	case "icmp":
		return 1
	case "tcp":
		return 6
	case "udp":
		return 17
	default:
		n, _ := strconv.Atoi(s)
		w.hold(n != 1 && n != 6 && n != 17)
		return n
	}
}

func (w *reader) side() api.Side {
	s := api.Side{Any: w.next() != "", Table: w.next()}
	if text := w.next(); text != "" {
		if !strings.Contains(text, "/") {
			text += "/32"
		}
		p, err := netip.ParsePrefix(text)
		w.hold(err == nil && p == p.Masked())
		if err == nil {
			b := p.Addr().As4()
			s.Prefix = api.Prefix{Addr: of4(uint32(b[0]), uint32(b[1]), uint32(b[2]), uint32(b[3])), Len: p.Bits()}
		}
	}
	low, high := w.number(-1), w.number(-1)
	switch {
	case low == -1:
		s.Ports = every
	case high == -1:
		s.Ports = api.Ports{Low: low, High: low}
	default:
		w.hold(low != high)
		s.Ports = api.Ports{Low: low, High: high}
	}
	return s
}

func (w *reader) flags() int {
	n := 0
	for _, c := range w.next() {
		n |= map[rune]int{'-': 0, 'F': 1, 'S': 2, 'R': 4, 'P': 8, 'A': 16, 'U': 32}[c]
	}
	return n
}

func (w *reader) pin() api.Pin {
	name, text := w.next(), w.next()
	if name == "" {
		return api.Pin{}
	}
	a, err := netip.ParseAddr(text)
	w.hold(err == nil)
	if err != nil {
		return api.Pin{}
	}
	b := a.As4()
	return api.Pin{On: true, Iface: name, Gate: of4(uint32(b[0]), uint32(b[1]), uint32(b[2]), uint32(b[3]))}
}

// read is P14.2's Parse by its words.
func read(s string) (api.Rule, api.Errno) {
	m := form.FindStringSubmatchIndex(s)
	if m == nil {
		return api.Rule{}, api.ErrForm
	}
	w := &reader{m: form.FindStringSubmatch(s)[1:]}
	r := api.Rule{Pass: w.next() == "pass", Return: w.next() != "", Quick: w.next() != "", On: w.next(), Proto: w.proto()}
	r.From, r.To = w.side(), w.side()
	if at := 2 * (1 + 5 + 5 + 5); m[at] >= 0 {
		w.hold(m[at] < m[at+1] && m[at+2] < m[at+3])
	}
	r.Set, r.Mask, r.Type = w.flags(), w.flags(), w.number(-1)
	r.Keep, r.RouteTo, r.ReplyTo, r.Table = w.next() != "", w.pin(), w.pin(), w.number(0)
	if w.bad || len(faults(r)) > 0 {
		return api.Rule{}, api.ErrForm
	}
	return r, api.OK
}

// pick is one of several.
func pick[T any](r *rand.Rand, l ...T) T { return l[r.Intn(len(l))] }

// someName is a name: short, long, or one of the words that stand in rules.
func someName(r *rand.Rand) string {
	if r.Intn(4) == 0 {
		if s := pick(r, keywords...); named(s) {
			return s
		}
	}
	var b []byte
	for range 1 + r.Intn(8) {
		b = append(b, alphabet[r.Intn(len(alphabet))])
	}
	return string(b)
}

// somePorts is ports, with their ends oftener than not.
func somePorts(r *rand.Rand) api.Ports {
	one := func() int { return pick(r, 0, 1, 80, 1023, 1024, 65534, 65535, r.Intn(65536), r.Intn(65536)) }
	a, b := one(), one()
	return api.Ports{Low: min(a, b), High: max(a, b)}
}

// someSide is a side that may be.
func someSide(r *rand.Rand, ported bool) api.Side {
	s := api.Side{Ports: every}
	switch r.Intn(3) {
	case 0:
		s.Any = true
	case 1:
		s.Table = someName(r)
	default:
		n := r.Intn(33)
		s.Prefix = api.Prefix{Addr: uint32(uint64(r.Uint32()) >> (32 - n) << (32 - n)), Len: n}
	}
	if ported && r.Intn(3) > 0 {
		s.Ports = somePorts(r)
	}
	return s
}

// somePin is a pin that may be.
func somePin(r *rand.Rand) api.Pin {
	if r.Intn(2) == 0 {
		return api.Pin{}
	}
	return api.Pin{On: true, Iface: someName(r), Gate: pick(r, 0, 1, 1<<32-1, r.Uint32())}
}

// some is a rule that may be.
func some(r *rand.Rand) api.Rule {
	x := plain(r.Intn(3) > 0)
	x.Quick = r.Intn(2) == 0
	if r.Intn(2) == 0 {
		x.On = someName(r)
	}
	x.Proto = pick(r, 0, 1, 6, 17, 6, 17, 1, 255, r.Intn(256))
	ported := x.Proto == 6 || x.Proto == 17
	x.From, x.To = someSide(r, ported), someSide(r, ported)
	if x.Proto == 6 && r.Intn(2) == 0 {
		x.Mask = r.Intn(64)
		x.Set = r.Intn(64) & x.Mask
	}
	if x.Proto == 1 && r.Intn(2) == 0 {
		x.Type = pick(r, 0, 8, 255, r.Intn(256))
	}
	if x.Pass {
		x.Keep, x.RouteTo, x.ReplyTo, x.Table = r.Intn(2) == 0, somePin(r), somePin(r), r.Intn(4)
	} else {
		x.Return = r.Intn(2) == 0
	}
	return x
}

// hold holds what is told of a rule against the chapter's words.
func hold(t *testing.T, r api.Rule) {
	t.Helper()
	ok := len(faults(r)) == 0
	if Is(r) != ok {
		t.Errorf("Is(%+v): %v, faults %q", r, Is(r), faults(r))
	}
	want := ""
	if ok {
		want = say(r)
	}
	if got := Print(r); got != want {
		t.Errorf("Print(%+v): %q, want %q", r, got, want)
	}
	if !ok {
		return
	}
	if got, e := Parse(want); got != r || e != api.OK || !Same(got, r) {
		t.Errorf("Parse(%q): %+v, %v, want %+v", want, got, e, r)
	}
}

// may holds it, and that a rule may be or not, as a test says by hand.
func may(t *testing.T, ok bool, r api.Rule) {
	t.Helper()
	if Is(r) != ok {
		t.Errorf("Is(%+v): %v", r, Is(r))
	}
	hold(t, r)
}

// takes holds what is told of a text against the chapter's words, and tells
// whether it is a rule.
func takes(t *testing.T, s string) bool {
	t.Helper()
	want, wantE := read(s)
	got, e := Parse(s)
	if got != want || e != wantE {
		t.Errorf("Parse(%q): %+v, %v, want %+v, %v", s, got, e, want, wantE)
	}
	return wantE == api.OK
}

// refuses holds that texts are none.
func refuses(t *testing.T, l ...string) {
	t.Helper()
	for _, s := range l {
		if r, e := Parse(s); e != api.ErrForm || r != (api.Rule{}) {
			t.Errorf("Parse(%.200q): %+v, %v", s, r, e)
		}
		// A long one takes the chapter's words too long.
		if len(s) < 1000 && takes(t, s) {
			t.Errorf("%q is taken for one", s)
		}
	}
}

// Words: names by their bytes and their length.
func TestName(t *testing.T) {
	for s, want := range map[string]bool{
		"": false, "a": true, "z": true, "0": true, "9": true, "az09": true, "0a": true, "00000000": true, "abcdefgh": true, "zzzzzzzz": true, "12345678": true, "any": true, "pass": true, "table": true,
		"abcdefghi": false, "123456789": false, "aaaaaaaaaaaaaaaa": false, "`": false, "{": false, "/": false, ":": false, "A": false, "Z": false, "@": false, "[": false, "ext-0": false, "ext_0": false, "a b": false, " a": false, "a ": false, "a\n": false, "a\x00": false, "\x00": false, "\x80": false, "\xff": false, "é": false, "ａ": false, "٣": false, "abcdefg{": false, "`bcdefgh": false, "abcdefgH": false,
	} {
		if Name(s) != want {
			t.Errorf("Name(%q): %v", s, !want)
		}
	}
	for c := range 256 {
		one := string([]byte{byte(c)})
		want := 'a' <= c && c <= 'z' || '0' <= c && c <= '9'
		for _, s := range []string{one, one + "a", "a" + one, "a" + one + "0", one + "abcdefg", "abcdefg" + one, "abc" + one + "defg"} {
			if Name(s) != want {
				t.Errorf("Name(%q): %v", s, !want)
			}
		}
		if Name("abcdefgh"+one) || Name(one+"abcdefgh") {
			t.Errorf("%q beside 8", one)
		}
	}
	for n := range 300 {
		for _, c := range []string{"a", "z", "0", "9", "-"} {
			if got := Name(strings.Repeat(c, n)); got != (c != "-" && n >= 1 && n <= 8) {
				t.Errorf("%d of %s: %v", n, c, got)
			}
		}
	}
	if Name(strings.Repeat("a", 1<<20)) {
		t.Error("a long one")
	}
}

// Words: what only a pass may have, and what only a block may.
func TestIsAction(t *testing.T) {
	pin := api.Pin{On: true, Iface: "a", Gate: 5}
	for _, x := range []struct {
		change      func(*api.Rule)
		pass, block bool
	}{
		{func(r *api.Rule) {}, true, true},
		{func(r *api.Rule) { r.Quick = true }, true, true},
		{func(r *api.Rule) { r.Return = true }, false, true},
		{func(r *api.Rule) { r.Return, r.Quick = true, true }, false, true},
		{func(r *api.Rule) { r.Keep = true }, true, false},
		{func(r *api.Rule) { r.RouteTo = pin }, true, false},
		{func(r *api.Rule) { r.ReplyTo = pin }, true, false},
		{func(r *api.Rule) { r.RouteTo, r.ReplyTo = pin, pin }, true, false},
		{func(r *api.Rule) { r.Table = 1 }, true, false},
		{func(r *api.Rule) { r.Table = 3 }, true, false},
		{func(r *api.Rule) { r.Table = -1 }, false, false},
		{func(r *api.Rule) { r.Keep, r.RouteTo, r.ReplyTo, r.Table = true, pin, pin, 2 }, true, false},
		{func(r *api.Rule) { r.Return, r.Keep = true, true }, false, false},
		{func(r *api.Rule) { r.Return, r.Table = true, 1 }, false, false},
	} {
		may(t, x.pass, but(plain(true), x.change))
		may(t, x.block, but(plain(false), x.change))
	}
}

// Words: On is empty or a name.
func TestIsOn(t *testing.T) {
	for s, ok := range map[string]bool{"": true, "a": true, "ext0": true, "abcdefgh": true, "pass": true, "0": true, "abcdefghi": false, "A": false, "a b": false, " ": false, "-": false, "é": false, "a\n": false, strings.Repeat("a", 100): false} {
		may(t, ok, with(func(r *api.Rule) { r.On = s }))
		may(t, ok, but(plain(false), func(r *api.Rule) { r.On = s }))
	}
}

// Words: Proto is 0 to 255.
func TestIsProto(t *testing.T) {
	for n := -300; n <= 600; n++ {
		may(t, n >= 0 && n <= 255, with(func(r *api.Rule) { r.Proto = n }))
	}
	for _, n := range wild {
		may(t, false, with(func(r *api.Rule) { r.Proto = n }))
	}
}

// sides is a rule with a side as its From, and one with it as its To.
func sides(proto int, s api.Side) []api.Rule {
	return []api.Rule{with(func(r *api.Rule) { r.Proto, r.From = proto, s }), with(func(r *api.Rule) { r.Proto, r.To = proto, s })}
}

// Words: what a side says of addresses.
func TestIsSide(t *testing.T) {
	nothing := api.Prefix{}
	for _, x := range []struct {
		any    bool
		table  string
		prefix api.Prefix
		ok     bool
	}{
		{true, "", nothing, true},
		{true, "a", nothing, false},
		{true, "A", nothing, false},
		{true, "", api.Prefix{Addr: 1 << 31}, false},
		{true, "", api.Prefix{Len: 1}, false},
		{true, "", api.Prefix{Len: -1}, false},
		{true, "", px(t, "10.0.0.0/8"), false},
		{true, "", api.Prefix{Addr: 1, Len: 32}, false},
		{true, "a", px(t, "10.0.0.0/8"), false},
		{false, "a", nothing, true},
		{false, "any", nothing, true},
		{false, "abcdefgh", nothing, true},
		{false, "abcdefghi", nothing, false},
		{false, "A", nothing, false},
		{false, "a>", nothing, false},
		{false, "<a>", nothing, false},
		{false, " ", nothing, false},
		{false, "a", api.Prefix{Addr: 1}, false},
		{false, "a", api.Prefix{Len: 1}, false},
		{false, "a", api.Prefix{Len: 32}, false},
		{false, "a", api.Prefix{Len: -1}, false},
		{false, "a", px(t, "10.0.0.0/8"), false},
		{false, "", nothing, true},
		{false, "", px(t, "10.0.0.0/8"), true},
		{false, "", px(t, "10.0.0.1/8"), false},
		{false, "", px(t, "10.0.0.1/32"), true},
		{false, "", px(t, "255.255.255.255/32"), true},
		{false, "", px(t, "255.255.255.255/31"), false},
		{false, "", px(t, "0.0.0.0/32"), true},
		{false, "", px(t, "128.0.0.0/1"), true},
		{false, "", px(t, "128.0.0.0/0"), false},
		{false, "", px(t, "224.0.0.0/4"), true},
		{false, "", api.Prefix{Len: -1}, false},
		{false, "", api.Prefix{Len: 33}, false},
		{false, "", api.Prefix{Len: 1 << 32}, false},
		{false, "", api.Prefix{Len: math.MinInt}, false},
		{false, "", api.Prefix{Len: math.MaxInt}, false},
	} {
		for _, r := range sides(0, api.Side{Any: x.any, Table: x.table, Prefix: x.prefix, Ports: every}) {
			may(t, x.ok, r)
		}
	}
}

// Words: a Prefix of every Len, at its last bit and behind it.
func TestIsPrefix(t *testing.T) {
	for n := -2; n <= 34; n++ {
		for bit := range 33 {
			// Bit 32 is none: the address is 0.
			a := uint32(1 << 32 >> 1 >> bit)
			for _, r := range sides(0, api.Side{Prefix: api.Prefix{Addr: a, Len: n}, Ports: every}) {
				may(t, n >= 0 && n <= 32 && (a == 0 || bit < n), r)
			}
		}
	}
}

// Words: Ports are 0 to 65535, Low not above High.
func TestIsPorts(t *testing.T) {
	numbers := append([]int{-65535, -80, -1, 0, 1, 2, 79, 80, 81, 255, 256, 1023, 32767, 32768, 65533, 65534, 65535}, wild...)
	for _, low := range numbers {
		for _, high := range numbers {
			ok := low >= 0 && low <= high && high <= 65535
			for _, proto := range []int{6, 17} {
				for _, r := range sides(proto, api.Side{Any: true, Ports: api.Ports{Low: low, High: high}}) {
					may(t, ok, r)
				}
			}
		}
	}
}

// Words: Ports other than all only of TCP and UDP, on either side, whatever the
// side says of addresses.
func TestIsPortsProto(t *testing.T) {
	for proto := range 256 {
		ported := proto == 6 || proto == 17
		for _, s := range []api.Side{{Any: true}, {Table: "a"}, {}, {Prefix: px(t, "10.0.0.0/8")}} {
			for p, ok := range map[api.Ports]bool{{Low: 0, High: 65535}: true, {Low: 0, High: 65534}: ported, {Low: 1, High: 65535}: ported, {Low: 80, High: 80}: ported, {}: ported, {Low: 65535, High: 65535}: ported, {Low: 0, High: 65536}: false} {
				s.Ports = p
				for _, r := range sides(proto, s) {
					may(t, ok, r)
				}
			}
		}
	}
	for _, proto := range []int{-1, 256, 262, -250, 1<<32 + 6} {
		for _, r := range sides(proto, api.Side{Any: true, Ports: api.Ports{Low: 1, High: 2}}) {
			may(t, false, r)
		}
	}
}

// Words: Mask is 0 to 63, Set has no bit that Mask has not, both only of TCP.
func TestIsFlags(t *testing.T) {
	numbers := append([]int{}, wild...)
	for n := -66; n <= 130; n++ {
		numbers = append(numbers, n)
	}
	for _, mask := range numbers {
		for _, set := range numbers {
			ok := mask >= 0 && mask <= 63
			for bit := range 64 {
				ok = ok && (set>>bit&1 == 0 || mask>>bit&1 == 1)
			}
			r := with(func(r *api.Rule) { r.Proto, r.Set, r.Mask = 6, set, mask })
			if Is(r) != ok || (Print(r) != "") != ok {
				t.Errorf("%d/%d: %v, %q", set, mask, Is(r), Print(r))
			}
		}
	}
	for proto := range 256 {
		for _, x := range []struct {
			set, mask int
			tcp       bool
		}{{0, 0, true}, {0, 1, true}, {1, 1, true}, {0, 32, true}, {63, 63, true}, {2, 18, true}, {1, 0, false}, {0, 64, false}, {64, 64, false}, {-1, -1, false}, {0, -1, false}, {-1, 0, false}} {
			ok := x.tcp && proto == 6 || x.set == 0 && x.mask == 0
			may(t, ok, with(func(r *api.Rule) { r.Proto, r.Set, r.Mask = proto, x.set, x.mask }))
		}
	}
}

// Words: Type is -1 to 255, and -1, unless of ICMP.
func TestIsType(t *testing.T) {
	for n := -260; n <= 520; n++ {
		may(t, n >= -1 && n <= 255, with(func(r *api.Rule) { r.Proto, r.Type = 1, n }))
		may(t, n == -1, with(func(r *api.Rule) { r.Type = n }))
	}
	for _, n := range wild {
		may(t, false, with(func(r *api.Rule) { r.Proto, r.Type = 1, n }))
	}
	for proto := range 256 {
		for _, n := range []int{-2, -1, 0, 8, 255, 256} {
			may(t, n == -1 || proto == 1 && n >= 0 && n <= 255, with(func(r *api.Rule) { r.Proto, r.Type = proto, n }))
		}
	}
}

// Words: a Pin that is On has a name, one that is not is nothing.
func TestIsPin(t *testing.T) {
	for _, x := range []struct {
		pin api.Pin
		ok  bool
	}{
		{api.Pin{}, true},
		{api.Pin{On: true}, false},
		{api.Pin{On: true, Gate: 5}, false},
		{api.Pin{On: true, Iface: "a"}, true},
		{api.Pin{On: true, Iface: "a", Gate: 1}, true},
		{api.Pin{On: true, Iface: "a", Gate: math.MaxUint32}, true},
		{api.Pin{On: true, Iface: "abcdefgh", Gate: of4(224, 0, 0, 1)}, true},
		{api.Pin{On: true, Iface: "abcdefghi", Gate: 5}, false},
		{api.Pin{On: true, Iface: "A"}, false},
		{api.Pin{On: true, Iface: "a b"}, false},
		{api.Pin{Iface: "a"}, false},
		{api.Pin{Iface: "A"}, false},
		{api.Pin{Gate: 1}, false},
		{api.Pin{Gate: math.MaxUint32}, false},
		{api.Pin{Iface: "a", Gate: 1}, false},
	} {
		may(t, x.ok, with(func(r *api.Rule) { r.RouteTo = x.pin }))
		may(t, x.ok, with(func(r *api.Rule) { r.ReplyTo = x.pin }))
		may(t, x.ok, with(func(r *api.Rule) { r.RouteTo, r.ReplyTo = api.Pin{On: true, Iface: "b"}, x.pin }))
		may(t, x.pin == api.Pin{}, but(plain(false), func(r *api.Rule) { r.RouteTo = x.pin }))
		may(t, x.pin == api.Pin{}, but(plain(false), func(r *api.Rule) { r.ReplyTo = x.pin }))
	}
}

// Words: Table is 0 to MaxTables less 1.
func TestIsTable(t *testing.T) {
	for n := -10; n <= 300; n++ {
		may(t, n >= 0 && n <= 3, with(func(r *api.Rule) { r.Table = n }))
		may(t, n == 0, but(plain(false), func(r *api.Rule) { r.Table = n }))
	}
	for _, n := range wild {
		may(t, false, with(func(r *api.Rule) { r.Table = n }))
	}
}

// A rule that is nothing blocks, of type 0 and of ports 0 alone: it may not be.
func TestNothing(t *testing.T) {
	may(t, false, api.Rule{})
	if Print(api.Rule{}) != "" || !Same(api.Rule{}, api.Rule{}) {
		t.Error("a rule that is nothing")
	}
}

// P14.1: each word by itself, and all together.
func TestPrint(t *testing.T) {
	web := api.Side{Table: "web", Ports: every}
	ten := api.Side{Prefix: px(t, "10.0.0.0/8"), Ports: every}
	ports := func(s api.Side, low, high int) api.Side {
		s.Ports = api.Ports{Low: low, High: high}
		return s
	}
	for _, x := range []struct {
		want string
		r    api.Rule
	}{
		{"pass from any to any", plain(true)},
		{"block from any to any", plain(false)},
		{"block return from any to any", but(plain(false), func(r *api.Rule) { r.Return = true })},
		{"pass quick from any to any", with(func(r *api.Rule) { r.Quick = true })},
		{"block quick from any to any", but(plain(false), func(r *api.Rule) { r.Quick = true })},
		{"pass on ext0 from any to any", with(func(r *api.Rule) { r.On = "ext0" })},
		{"pass on on from any to any", with(func(r *api.Rule) { r.On = "on" })},
		{"pass proto icmp from any to any", with(func(r *api.Rule) { r.Proto = 1 })},
		{"pass proto 2 from any to any", with(func(r *api.Rule) { r.Proto = 2 })},
		{"pass proto 5 from any to any", with(func(r *api.Rule) { r.Proto = 5 })},
		{"pass proto tcp from any to any", with(func(r *api.Rule) { r.Proto = 6 })},
		{"pass proto 7 from any to any", with(func(r *api.Rule) { r.Proto = 7 })},
		{"pass proto 16 from any to any", with(func(r *api.Rule) { r.Proto = 16 })},
		{"pass proto udp from any to any", with(func(r *api.Rule) { r.Proto = 17 })},
		{"pass proto 18 from any to any", with(func(r *api.Rule) { r.Proto = 18 })},
		{"pass proto 255 from any to any", with(func(r *api.Rule) { r.Proto = 255 })},
		{"pass from 10.0.0.0/8 to any", with(func(r *api.Rule) { r.From = ten })},
		{"pass from any to 10.0.0.0/8", with(func(r *api.Rule) { r.To = ten })},
		{"pass from <web> to any", with(func(r *api.Rule) { r.From = web })},
		{"pass from any to <web>", with(func(r *api.Rule) { r.To = web })},
		{"pass from 0.0.0.0/0 to 255.255.255.255/32", with(func(r *api.Rule) {
			r.From, r.To = api.Side{Ports: every}, api.Side{Prefix: px(t, "255.255.255.255"), Ports: every}
		})},
		{"pass from <any> to <to>", with(func(r *api.Rule) { r.From.Any, r.From.Table, r.To.Any, r.To.Table = false, "any", false, "to" })},
		{"pass proto tcp from any port 80 to any", with(func(r *api.Rule) { r.Proto, r.From = 6, ports(whole, 80, 80) })},
		{"pass proto udp from any to any port 53", with(func(r *api.Rule) { r.Proto, r.To = 17, ports(whole, 53, 53) })},
		{"pass proto udp from any port 0 to any port 65535", with(func(r *api.Rule) { r.Proto, r.From, r.To = 17, ports(whole, 0, 0), ports(whole, 65535, 65535) })},
		{"pass proto tcp from <web> port 0:65534 to 10.0.0.0/8 port 1:65535", with(func(r *api.Rule) { r.Proto, r.From, r.To = 6, ports(web, 0, 65534), ports(ten, 1, 65535) })},
		{"pass proto tcp from any port 1024:65535 to any port 80:81", with(func(r *api.Rule) { r.Proto, r.From, r.To = 6, ports(whole, 1024, 65535), ports(whole, 80, 81) })},
		{"pass proto tcp from any to any flags S/SA", with(func(r *api.Rule) { r.Proto, r.Set, r.Mask = 6, 2, 18 })},
		{"pass proto tcp from any to any flags -/FSRPAU", with(func(r *api.Rule) { r.Proto, r.Mask = 6, 63 })},
		{"pass proto tcp from any to any flags FSRPAU/FSRPAU", with(func(r *api.Rule) { r.Proto, r.Set, r.Mask = 6, 63, 63 })},
		{"pass proto tcp from any to any flags F/F", with(func(r *api.Rule) { r.Proto, r.Set, r.Mask = 6, 1, 1 })},
		{"pass proto tcp from any to any flags S/S", with(func(r *api.Rule) { r.Proto, r.Set, r.Mask = 6, 2, 2 })},
		{"pass proto tcp from any to any flags R/R", with(func(r *api.Rule) { r.Proto, r.Set, r.Mask = 6, 4, 4 })},
		{"pass proto tcp from any to any flags P/P", with(func(r *api.Rule) { r.Proto, r.Set, r.Mask = 6, 8, 8 })},
		{"pass proto tcp from any to any flags A/A", with(func(r *api.Rule) { r.Proto, r.Set, r.Mask = 6, 16, 16 })},
		{"pass proto tcp from any to any flags U/U", with(func(r *api.Rule) { r.Proto, r.Set, r.Mask = 6, 32, 32 })},
		{"pass proto tcp from any to any flags -/U", with(func(r *api.Rule) { r.Proto, r.Mask = 6, 32 })},
		{"block proto tcp from any to any flags FRA/FSRAU", but(plain(false), func(r *api.Rule) { r.Proto, r.Set, r.Mask = 6, 21, 55 })},
		{"pass proto icmp from any to any type 0", with(func(r *api.Rule) { r.Proto, r.Type = 1, 0 })},
		{"pass proto icmp from any to any type 8", with(func(r *api.Rule) { r.Proto, r.Type = 1, 8 })},
		{"block proto icmp from any to any type 255", but(plain(false), func(r *api.Rule) { r.Proto, r.Type = 1, 255 })},
		{"pass from any to any keep", with(func(r *api.Rule) { r.Keep = true })},
		{"pass from any to any route-to a 10.0.0.1", with(func(r *api.Rule) { r.RouteTo = api.Pin{On: true, Iface: "a", Gate: of4(10, 0, 0, 1)} })},
		{"pass from any to any route-to a 0.0.0.0", with(func(r *api.Rule) { r.RouteTo = api.Pin{On: true, Iface: "a"} })},
		{"pass from any to any reply-to b 255.255.255.255", with(func(r *api.Rule) { r.ReplyTo = api.Pin{On: true, Iface: "b", Gate: math.MaxUint32} })},
		{"pass from any to any route-to table 1.2.3.4 reply-to keep 4.3.2.1", with(func(r *api.Rule) {
			r.RouteTo, r.ReplyTo = api.Pin{On: true, Iface: "table", Gate: of4(1, 2, 3, 4)}, api.Pin{On: true, Iface: "keep", Gate: of4(4, 3, 2, 1)}
		})},
		{"pass from any to any table 1", with(func(r *api.Rule) { r.Table = 1 })},
		{"pass from any to any table 3", with(func(r *api.Rule) { r.Table = 3 })},
		{"block return quick on ext0 proto tcp from 10.0.0.0/8 port 7 to <web> port 8:9 flags SA/FSRA", api.Rule{Return: true, Quick: true, On: "ext0", Proto: 6, From: ports(ten, 7, 7), To: ports(web, 8, 9), Set: 18, Mask: 23, Type: -1}},
		{"pass quick on ext0 proto tcp from <web> port 7:8 to 10.0.0.0/8 port 9 flags -/S keep route-to a 1.2.3.4 reply-to b 5.6.7.8 table 2", api.Rule{Pass: true, Quick: true, On: "ext0", Proto: 6, From: ports(web, 7, 8), To: ports(ten, 9, 9), Mask: 2, Type: -1, Keep: true, RouteTo: api.Pin{On: true, Iface: "a", Gate: of4(1, 2, 3, 4)}, ReplyTo: api.Pin{On: true, Iface: "b", Gate: of4(5, 6, 7, 8)}, Table: 2}},
		{"pass quick on ext0 proto icmp from any to any type 3 keep route-to a 1.2.3.4 reply-to b 5.6.7.8 table 2", api.Rule{Pass: true, Quick: true, On: "ext0", Proto: 1, From: whole, To: whole, Type: 3, Keep: true, RouteTo: api.Pin{On: true, Iface: "a", Gate: of4(1, 2, 3, 4)}, ReplyTo: api.Pin{On: true, Iface: "b", Gate: of4(5, 6, 7, 8)}, Table: 2}},
	} {
		if got := Print(x.r); got != x.want {
			t.Errorf("Print: %q, want %q", got, x.want)
		}
		if got, e := Parse(x.want); got != x.r || e != api.OK {
			t.Errorf("Parse(%q): %+v, %v", x.want, got, e)
		}
		hold(t, x.r)
	}
}

// P14.1: all flags, protocols, types and ports.
func TestPrintNumbers(t *testing.T) {
	for mask := range 64 {
		for set := range 64 {
			hold(t, with(func(r *api.Rule) { r.Proto, r.Set, r.Mask = 6, set, mask }))
		}
	}
	for n := range 256 {
		hold(t, with(func(r *api.Rule) { r.Proto = n }))
		hold(t, with(func(r *api.Rule) { r.Proto, r.Type = 1, n }))
	}
	for n := range 65536 {
		r := with(func(r *api.Rule) {
			r.Proto, r.From.Ports, r.To.Ports = 6, api.Ports{Low: n, High: n}, api.Ports{Low: n, High: 65535}
		})
		want := fmt.Sprintf("pass proto tcp from any port %d to any port %d:65535", n, n)
		switch n {
		case 0:
			want = "pass proto tcp from any port 0 to any"
		case 65535:
			want = "pass proto tcp from any port 65535 to any port 65535"
		}
		got, e := Parse(want)
		if Print(r) != want || got != r || e != api.OK {
			t.Fatalf("%q: %q, %+v, %v", want, Print(r), got, e)
		}
	}
}

// P14.1: nothing is told of a rule that may not be, for each of the ways in which
// it may not, by itself.
func TestPrintNone(t *testing.T) {
	r := rand.New(rand.NewSource(1))
	alone := map[string]int{}
	wrong := []string{"", "A", "abcdefghi", "a b", "é", "-"}
	number := func() int { return pick(r, pick(r, wild...), r.Intn(300)-20, -1, 0, 64, 256, 65536) }
	for range 200000 {
		x := some(r)
		switch r.Intn(19) {
		case 0:
			x.Pass = !x.Pass
		case 1:
			x.Return = true
		case 2:
			x.Keep = true
		case 3:
			x.On = pick(r, wrong...)
		case 4:
			x.Proto = number()
		case 5:
			x.From.Any = !x.From.Any
		case 6:
			x.To.Any = !x.To.Any
		case 7:
			x.From.Table = pick(r, append(wrong, "a")...)
		case 8:
			x.To.Table = pick(r, append(wrong, "a")...)
		case 9:
			x.From.Prefix = api.Prefix{Addr: pick(r, 0, r.Uint32()), Len: pick(r, r.Intn(40)-3, number())}
		case 10:
			x.To.Prefix = api.Prefix{Addr: pick(r, 0, r.Uint32()), Len: pick(r, r.Intn(40)-3, number())}
		case 11:
			x.From.Ports = api.Ports{Low: pick(r, x.From.Ports.Low, number()), High: pick(r, x.From.Ports.High, number())}
		case 12:
			x.To.Ports = api.Ports{Low: pick(r, x.To.Ports.Low, number()), High: pick(r, x.To.Ports.High, number())}
		case 13:
			x.Mask = number()
		case 14:
			x.Set = number()
		case 15:
			x.Type = number()
		case 16:
			x.RouteTo = api.Pin{On: r.Intn(2) == 0, Iface: pick(r, append(wrong, "a")...), Gate: pick(r, 0, r.Uint32())}
		case 17:
			x.ReplyTo = api.Pin{On: r.Intn(2) == 0, Iface: pick(r, append(wrong, "a")...), Gate: pick(r, 0, r.Uint32())}
		case 18:
			x.Table = pick(r, 1, number())
		}
		hold(t, x)
		if l := faults(x); len(l) == 1 {
			alone[l[0]]++
		}
	}
	for _, what := range allFaults {
		if alone[what] < 100 {
			t.Errorf("%q by itself: %d times", what, alone[what])
		}
	}
}

// P14.2: the chapter's example, and other texts that are told otherwise than
// they stood.
func TestParse(t *testing.T) {
	for s, want := range map[string]string{
		"pass from any to 10.0.0.1":                              "pass from any to 10.0.0.1/32",
		"pass from 0.0.0.0 to 255.255.255.255":                   "pass from 0.0.0.0/32 to 255.255.255.255/32",
		"  pass   from any  to   any   ":                         "pass from any to any",
		"pass from any port 0:65535 to any":                      "pass from any to any",
		"pass from any to any port 0:65535":                      "pass from any to any",
		"pass proto tcp from any port 0:65535 to <a> port 0":     "pass proto tcp from any to <a> port 0",
		"pass proto icmp from 1.2.3.4 port 0:65535 to any":       "pass proto icmp from 1.2.3.4/32 to any",
		"block  proto 47  from <b> port 0:65535 to 10.0.0.0/8 ":  "block proto 47 from <b> to 10.0.0.0/8",
		"block return quick on ext0 proto tcp from any to any":   "block return quick on ext0 proto tcp from any to any",
		"pass on from from any to any":                           "pass on from from any to any",
		"pass on quick proto udp from <port> port 1 to <flags>":  "pass on quick proto udp from <port> port 1 to <flags>",
		"pass quick on quick from any to any":                    "pass quick on quick from any to any",
		" pass from any to any route-to keep 1.2.3.4 table 1":    "pass from any to any route-to keep 1.2.3.4 table 1",
		"pass from any to any keep reply-to table 0.0.0.0":       "pass from any to any keep reply-to table 0.0.0.0",
		"pass proto tcp from any to any flags SA/SA":             "pass proto tcp from any to any flags SA/SA",
		"pass proto tcp from any to any flags -/A keep table 3 ": "pass proto tcp from any to any flags -/A keep table 3",
	} {
		r, e := Parse(s)
		if e != api.OK || Print(r) != want || !Is(r) {
			t.Errorf("Parse(%q): %q, %v", s, Print(r), e)
		}
		if again, e := Parse(want); again != r || e != api.OK {
			t.Errorf("Parse(%q): %+v, %v", want, again, e)
		}
		takes(t, s)
	}
	want := api.Rule{Pass: true, From: whole, To: api.Side{Prefix: api.Prefix{Addr: of4(10, 0, 0, 1), Len: 32}, Ports: every}, Type: -1}
	if r, e := Parse("pass from any to 10.0.0.1"); r != want || e != api.OK {
		t.Errorf("%+v, %v", r, e)
	}
}

// P14.2: ErrForm for words too many, too few, twice, in another order, with a
// capital.
func TestParseWords(t *testing.T) {
	refuses(t, "", " ", "     ", "pass", "block", "allow", "from any to any", "pass from", "pass from any", "pass from any to", "pass to any", "pass to any from any", "pass any", "pass any to any", "pass from to any", "pass from any any", "pass from any to any any", "pass from any to any to any", "pass from any from any to any",
		"pass pass from any to any", "pass block from any to any", "block block from any to any", "pass from any to any x", "x pass from any to any", "pass x from any to any", "pass from any to any pass", "passfrom any to any", "pass fromany to any", "pass from anyto any", "pass from any toany", "pa ss from any to any",
		"quick pass from any to any", "return block from any to any", "block quick return from any to any", "block return return from any to any", "pass quick quick from any to any", "pass return from any to any", "block return from any to any return", "pass from any to any quick", "pass on a quick from any to any",
		"pass on from any to any", "pass on", "pass on a", "pass on a on b from any to any", "pass on a b from any to any", "pass a from any to any", "pass on Ext from any to any", "pass on abcdefghi from any to any", "pass on ext-0 from any to any", "pass on <a> from any to any", "pass on any", "pass proto tcp on a from any to any", "pass from any to any on a",
		"pass proto from any to any", "pass proto tcp proto tcp from any to any", "pass proto tcp tcp from any to any", "pass tcp from any to any", "pass proto", "pass proto tcp", "pass from any to any proto tcp", "pass proto tcp udp from any to any", "pass proto any from any to any", "pass proto sctp from any to any",
		"PASS from any to any", "Pass from any to any", "block Return from any to any", "pass Quick from any to any", "pass On a from any to any", "pass proto TCP from any to any", "pass proto Udp from any to any", "pass proto iCMP from any to any", "pass Proto tcp from any to any", "pass From any to any", "pass from Any to any", "pass from any To any", "pass from any to anY", "pass from <A> to any", "pass proto tcp from any Port 1 to any", "pass proto tcp from any to any Flags S/S", "pass proto tcp from any to any flags s/s", "pass proto tcp from any to any flags S/sA", "pass proto icmp from any to any Type 8", "pass from any to any Keep", "pass from any to any Route-to a 1.2.3.4", "pass from any to any reply-To a 1.2.3.4", "pass from any to any route-to A 1.2.3.4", "pass from any to any Table 1",
		"pass from any to any keep keep", "pass from any to any table 1 keep", "pass keep from any to any", "pass from any keep to any", "pass from any to any table 1 table 1", "pass from any to any table 1 table 2", "pass from any to any table", "pass from any to any 1", "pass from any to any table a", "pass from any to any table 1 1", "pass table 1 from any to any",
		"pass from any to any route-to", "pass from any to any route-to a", "pass from any to any route-to 1.2.3.4", "pass from any to any route-to 1.2.3.4 a", "pass from any to any route-to a 1.2.3", "pass from any to any route-to a 1.2.3.4.5", "pass from any to any route-to a 1.2.3.4/32", "pass from any to any route-to a any", "pass from any to any route-to abcdefghi 1.2.3.4", "pass from any to any route-to a 1.2.3.04", "pass from any to any route-to a 1.2.3.256", "pass from any to any route-to a b 1.2.3.4", "pass from any to any route-to a 1.2.3.4 route-to a 1.2.3.4", "pass from any to any reply-to a 1.2.3.4 reply-to a 1.2.3.4", "pass from any to any reply-to a 1.2.3.4 route-to a 1.2.3.4", "pass from any to any route-to a 1.2.3.4 keep", "pass from any to any reply-to a 1.2.3.4 keep", "pass from any to any table 1 route-to a 1.2.3.4", "pass from any to any table 1 reply-to a 1.2.3.4", "pass from any to any reply-to", "pass from any to any reply-to a", "pass from any to any reply-to a 1.2.3", "pass from any to any reply-to A 1.2.3.4", "pass from any to any route to a 1.2.3.4", "pass from any to any routeto a 1.2.3.4",
		"block from any to any keep", "block from any to any table 1", "block from any to any route-to a 1.2.3.4", "block from any to any reply-to a 1.2.3.4", "block return from any to any keep")
}

// P14.2: ErrForm for sides, ports, flags and types that are none.
func TestParseParts(t *testing.T) {
	refuses(t, "pass from <> to any", "pass from < to any", "pass from > to any", "pass from <a to any", "pass from a> to any", "pass from a to any", "pass from <<a> to any", "pass from <a>> to any", "pass from <a>x to any", "pass from <a >to any", "pass from < a> to any", "pass from <abcdefghi> to any", "pass from <A> to any", "pass from <a,b> to any", "pass from any <a> to any", "pass from any to <>", "pass from any to <a", "pass from any to <a> <b>",
		"pass from 10.0.0.1/8 to any", "pass from 10.0.0.0/33 to any", "pass from 10.0.0.0/ to any", "pass from 10.0.0.0/08 to any", "pass from 10.0.0.0/-8 to any", "pass from 10.0.0.0/+8 to any", "pass from 10.0.0 to any", "pass from 10.0.0.0.0 to any", "pass from 10.0.0.256 to any", "pass from 010.0.0.0/8 to any", "pass from 10.0.0.0/8/8 to any", "pass from 10.0.0.0 /8 to any", "pass from /8 to any", "pass from 10.0.0.0/8,11.0.0.0/8 to any", "pass from 10.0.0.0/8 11.0.0.0/8 to any", "pass from 0.0.0.1/0 to any", "pass from any to 10.0.0.1/31", "pass from any to 10.0.0.0/255.0.0.0", "pass from !10.0.0.0/8 to any", "pass from 10.0.0.0/4294967304 to any",
		"pass from any port 80 to any", "pass proto icmp from any port 80 to any", "pass proto 47 from any to any port 80", "pass from any to any port 80", "pass from any port 0 to any", "pass from any port 0:65534 to any", "pass from any port 1:65535 to any",
		"pass proto tcp from any port to any", "pass proto tcp from port 80 to any", "pass proto tcp from any 80 to any", "pass proto tcp from any port 80 port 80 to any", "pass proto tcp from any port 80 80 to any", "pass proto tcp port 80 from any to any", "pass proto tcp from any to any port", "pass proto tcp from any to port 80", "pass proto tcp from any to any port any", "pass proto tcp from any port http to any", "pass proto tcp from any to any flags S/S port 80",
		"pass proto tcp from any port 80:80 to any", "pass proto tcp from any port 0:0 to any", "pass proto tcp from any port 65535:65535 to any", "pass proto tcp from any port 90:80 to any", "pass proto tcp from any port 1:0 to any", "pass proto tcp from any port 65535:0 to any", "pass proto tcp from any to any port 80:80", "pass proto tcp from any to any port 81:80", "pass proto tcp from any port 1:2:3 to any", "pass proto tcp from any port : to any", "pass proto tcp from any port 1: to any", "pass proto tcp from any port :1 to any", "pass proto tcp from any port 1 : 2 to any", "pass proto tcp from any port 1: 2 to any", "pass proto tcp from any port 1 :2 to any", "pass proto tcp from any port 1-2 to any", "pass proto tcp from any port 1::2 to any", "pass proto tcp from any port 0:65536 to any", "pass proto tcp from any port -1:5 to any", "pass proto tcp from any port 00:65535 to any", "pass proto tcp from any port 0:065535 to any", "pass from any port 0:65535:0 to any", "pass from any port 0:65535 port 0:65535 to any",
		"pass proto tcp from any to any flags", "pass proto tcp from any to any flags S", "pass proto tcp from any to any flags /", "pass proto tcp from any to any flags S/", "pass proto tcp from any to any flags /S", "pass proto tcp from any to any flags -/-", "pass proto tcp from any to any flags -/", "pass proto tcp from any to any flags S/-", "pass proto tcp from any to any flags /-", "pass proto tcp from any to any flags -", "pass proto tcp from any to any flags S/A", "pass proto tcp from any to any flags SA/S", "pass proto tcp from any to any flags AS/AS", "pass proto tcp from any to any flags S/AS", "pass proto tcp from any to any flags SS/S", "pass proto tcp from any to any flags S/SS", "pass proto tcp from any to any flags -S/S", "pass proto tcp from any to any flags S-/S", "pass proto tcp from any to any flags --/S", "pass proto tcp from any to any flags S/S-", "pass proto tcp from any to any flags S/SA/SA", "pass proto tcp from any to any flags S /SA", "pass proto tcp from any to any flags S/ SA", "pass proto tcp from any to any flags S/SX", "pass proto tcp from any to any flags E/E", "pass proto tcp from any to any flags any", "pass proto tcp from any to any flags 2/18", "pass proto tcp from any to any flags S/S flags S/S", "pass proto tcp from any flags S/S to any", "pass proto tcp from any to any S/S", "pass proto tcp from any to any keep flags S/S",
		"pass proto udp from any to any flags S/S", "pass from any to any flags S/S", "pass proto icmp from any to any flags S/S", "pass proto udp from any to any flags -/S", "pass proto udp from any to any flags -/-",
		"pass from any to any type 8", "pass proto tcp from any to any type 8", "pass proto tcp from any to any flags S/S type 8", "pass proto icmp from any to any type", "pass proto icmp from any to any type -1", "pass proto icmp from any to any type 256", "pass proto icmp from any to any type any", "pass proto icmp from any to any type 8 type 8", "pass proto icmp from any to any type 8 8", "pass proto icmp from any to any keep type 8", "pass proto icmp from any to any 8", "pass proto icmp type 8 from any to any", "pass proto icmp from any to any type echo")
}

// P14.2: numbers are digits without noughts ahead, at every place where one may
// stand.
func TestParseNumbers(t *testing.T) {
	for _, x := range []struct {
		ahead, behind string
		low, high     int
		none          []int
	}{
		{"pass proto ", " from any to any", 1, 255, []int{1, 6, 17}},
		{"pass proto tcp from any port ", " to any", 0, 65535, nil},
		{"pass proto udp from any to any port ", "", 0, 65535, nil},
		{"pass proto tcp from any port ", ":65535 to any", 0, 65534, nil},
		{"pass proto udp from any to any port 0:", " keep", 1, 65535, nil},
		{"pass proto icmp from any to any type ", "", 0, 255, nil},
		{"pass from any to any table ", "", 1, 3, nil},
		{"pass from 0.0.0.0/", " to any", 0, 32, nil},
		{"pass from any to 0.0.0.", "", 0, 255, nil},
		{"pass from any to any route-to a ", ".0.0.0", 0, 255, nil},
	} {
		for n := -300; n <= 70000; n++ {
			s := x.ahead + strconv.Itoa(n) + x.behind
			_, e := Parse(s)
			if ok := n >= x.low && n <= x.high && !slices.Contains(x.none, n); (e == api.OK) != ok {
				t.Errorf("Parse(%q): %v", s, e)
			}
		}
		for _, n := range wild {
			refuses(t, x.ahead+strconv.Itoa(n)+x.behind)
		}
		for n := x.low; n <= x.high; n += 1 + n/100 {
			s := strconv.Itoa(n)
			refuses(t, x.ahead+"0"+s+x.behind, x.ahead+"00"+s+x.behind, x.ahead+"+"+s+x.behind, x.ahead+"-"+s+x.behind, x.ahead+"0x"+s+x.behind, x.ahead+"_"+s+x.behind, x.ahead+s+"_"+x.behind, x.ahead+s+"e0"+x.behind, x.ahead+s+" 0"+x.behind)
		}
		refuses(t, x.ahead+x.behind, x.ahead+"+"+x.behind, x.ahead+"-"+x.behind, x.ahead+"x"+x.behind, x.ahead+"1_0"+x.behind, x.ahead+"-0"+x.behind, x.ahead+"٣"+x.behind, x.ahead+"３"+x.behind,
			x.ahead+"18446744073709551617"+x.behind, x.ahead+"18446744073709551618"+x.behind, x.ahead+"9223372036854775808"+x.behind, x.ahead+"-9223372036854775809"+x.behind, x.ahead+"99999999999999999999"+x.behind, x.ahead+strings.Repeat("0", 100)+"2"+x.behind)
		for _, n := range []int{19, 20, 21, 39, 40, 100, 1000, 100000} {
			refuses(t, x.ahead+strings.Repeat("1", n)+x.behind, x.ahead+"1"+strings.Repeat("0", n)+x.behind)
		}
	}
}

// full is texts with every word in some of them, as they are told.
var full = []string{
	"pass quick on ext0 proto tcp from <web> port 7:8 to 10.0.0.0/8 port 9 flags -/S keep route-to a 1.2.3.4 reply-to b 5.6.7.8 table 2",
	"block return quick on ext0 proto tcp from 10.0.0.0/8 port 7 to <web> port 8:9 flags SA/FSRA",
	"pass quick on a proto icmp from any to 10.0.0.1 type 30 keep route-to c 1.2.3.4 reply-to d 5.6.7.8 table 2",
	"block return proto 47 from <a> port 0:65535 to 1.2.3.4",
}

// P14.2: words are parted by one blank or more, which may stand ahead and behind,
// and by no other byte.
func TestParseBlanks(t *testing.T) {
	for _, s := range full {
		want, e := Parse(s)
		if e != api.OK {
			t.Fatal(s)
		}
		for _, n := range []int{1, 2, 3, 17, 5000} {
			blanks := strings.Repeat(" ", n)
			for _, wide := range []string{blanks + s, s + blanks, blanks + s + blanks, strings.ReplaceAll(s, " ", blanks), blanks + strings.ReplaceAll(s, " ", blanks) + blanks} {
				if r, e := Parse(wide); r != want || e != api.OK {
					t.Errorf("%d blanks in %q: %+v, %v", n, s, r, e)
				}
			}
		}
		for c := range 256 {
			one := string([]byte{byte(c)})
			if c != ' ' {
				// A byte behind may be more of the last word.
				takes(t, s+one)
				refuses(t, one+s, one+" "+s, s+" "+one, strings.ReplaceAll(s, " ", one), strings.ReplaceAll(s, " ", one+one))
			}
			for i := range len(s) {
				if s[i] == ' ' && c != ' ' {
					refuses(t, s[:i]+" "+one+" "+s[i+1:])
				}
			}
		}
		for _, space := range []string{"\u0085", "\u00a0", "\u2003", "\u3000", "\ufeff", "\r\n", "\t ", " \t", " \n", "\n ", "\v ", "\f "} {
			refuses(t, space+s, s+space, strings.ReplaceAll(s, " ", space), strings.Replace(s, " ", space, 1))
		}
	}
}

// P14.2: every byte taken away, and every byte put in or instead, at every place.
func TestParseBytes(t *testing.T) {
	good, bad := 0, 0
	count := func(s string) {
		if takes(t, s) {
			good++
		} else {
			bad++
		}
	}
	for _, s := range full {
		for i := range len(s) + 1 {
			count(s[:i])
			count(s[i:])
			for c := range 256 {
				one := string([]byte{byte(c)})
				count(s[:i] + one + s[i:])
				if i < len(s) {
					count(s[:i] + one + s[i+1:])
				}
			}
			if i < len(s) {
				count(s[:i] + s[i+1:])
			}
		}
	}
	if good < 1000 || bad < 10000 {
		t.Errorf("%d rules, %d none", good, bad)
	}
}

// edit is a list of words with one of them taken away, doubled, moved, or
// another one put in or instead.
func edit(r *rand.Rand, l []string) []string {
	l = slices.Clone(l)
	other := pick(r, pick(r, keywords...), pick(r, keywords...), someName(r), strconv.Itoa(r.Intn(300)), strconv.Itoa(r.Intn(5)), "<"+someName(r)+">", dotted(r.Uint32()), dotted(r.Uint32())+"/"+strconv.Itoa(r.Intn(34)), "10.0.0.0/8", sayFlags(r.Intn(64))+"/"+sayFlags(r.Intn(64)), strconv.Itoa(r.Intn(70000))+":"+strconv.Itoa(r.Intn(70000)), "0:65535", "-/-", "-1", "00", "<>", ":", "/", "-")
	if len(l) == 0 {
		return []string{other}
	}
	i, j := r.Intn(len(l)), r.Intn(len(l))
	switch r.Intn(6) {
	case 0:
		return slices.Delete(l, i, i+1)
	case 1:
		return slices.Insert(l, i, l[i])
	case 2:
		return slices.Insert(l, i, other)
	case 3:
		l[i], l[j] = l[j], l[i]
		return l
	case 4:
		return slices.Delete(l, min(i, j), max(i, j)+1)
	}
	l[i] = other
	return l
}

// P14.2: words of rules edited, over and over, held against the chapter's words.
func TestParseEdited(t *testing.T) {
	r := rand.New(rand.NewSource(2))
	good, bad := 0, 0
	for range 60000 {
		l := strings.Split(say(some(r)), " ")
		for range 1 + r.Intn(2) {
			l = edit(r, l)
		}
		if takes(t, strings.Join(l, " ")) {
			good++
		} else {
			bad++
		}
	}
	if good < 1500 || bad < 30000 {
		t.Errorf("%d rules, %d none", good, bad)
	}
}

// P14.2: one of the keywords put in at every place, or instead of every word.
func TestParseKeywords(t *testing.T) {
	for _, s := range full {
		l := strings.Split(s, " ")
		for i := range len(l) + 1 {
			for _, word := range append(keywords, "a", "1", "80", "<a>", "1.2.3.4", "10.0.0.0/8", "S/SA", "1:2", "-") {
				takes(t, strings.Join(slices.Insert(slices.Clone(l), i, word), " "))
				if i < len(l) {
					takes(t, strings.Join(slices.Concat(l[:i], []string{word}, l[i+1:]), " "))
				}
			}
			takes(t, strings.Join(l[:i], " "))
			takes(t, strings.Join(l[i:], " "))
			for j := range i {
				takes(t, strings.Join(slices.Concat(l[:j], l[i:]), " "))
			}
		}
	}
}

// loose is a rule's words as Parse takes them too: with more blanks, without
// `/32`, with all ports told.
func loose(r *rand.Rand, x api.Rule) string {
	text := sayWith(x, func(s api.Side) string {
		text := saySide(s)
		if r.Intn(2) == 0 {
			text = strings.Replace(text, "/32", "", 1)
		}
		if s.Ports == every && r.Intn(2) == 0 {
			text += " port 0:65535"
		}
		return text
	})
	var b strings.Builder
	for _, word := range strings.Split(text, " ") {
		b.WriteString(strings.Repeat(" ", 1+pick(r, 0, 0, 1, r.Intn(5))))
		b.WriteString(word)
	}
	return b.String()[r.Intn(2):] + strings.Repeat(" ", r.Intn(3))
}

// P14.2, P14.3: Parse of Print of a rule that may be is it, however loosely it
// is told.
func TestParsePrint(t *testing.T) {
	r := rand.New(rand.NewSource(3))
	count := map[string]int{}
	for range 60000 {
		x := some(r)
		hold(t, x)
		s := loose(r, x)
		if got, e := Parse(s); got != x || e != api.OK {
			t.Errorf("Parse(%q): %+v, %v, want %+v", s, got, e, x)
		}
		takes(t, s)
		for _, word := range strings.Split(s, " ") {
			count[word]++
		}
	}
	for _, word := range append(keywords, "0:65535", "-/S", "<any>", "0.0.0.0", "0.0.0.0/0", "255.255.255.255", "255") {
		if count[word] < 20 {
			t.Errorf("%q: %d times", word, count[word])
		}
	}
}

// P14.3: all ways in which words may be there or not.
func TestParsePrintAll(t *testing.T) {
	pins := []api.Pin{{}, {On: true, Iface: "a", Gate: of4(1, 2, 3, 4)}}
	ends := []api.Side{{Any: true}, {Table: "a"}, {Prefix: px(t, "10.0.0.0/8")}}
	ports := []api.Ports{every, {Low: 7, High: 7}, {Low: 7, High: 8}}
	seen := map[string]api.Rule{}
	for bits := range 1 << 8 {
		for _, proto := range []int{0, 1, 6, 17, 47} {
			for kind := range 81 {
				x := plain(bits&1 > 0)
				x.Return, x.Quick, x.Keep, x.Proto = bits&2 > 0, bits&4 > 0, bits&8 > 0, proto
				x.RouteTo, x.ReplyTo, x.Table = pins[bits>>4&1], pins[bits>>5&1], bits>>6&1
				if bits&128 > 0 {
					x.On, x.Set, x.Mask, x.Type = "b", 2, 18, 8
					if proto != 6 {
						x.Set, x.Mask = 0, 0
					}
					if proto != 1 {
						x.Type = -1
					}
				}
				x.From, x.To = ends[kind%3], ends[kind/3%3]
				x.From.Ports, x.To.Ports = ports[kind/9%3], ports[kind/27]
				hold(t, x)
				if s := Print(x); s != "" {
					if y, ok := seen[s]; ok && y != x {
						t.Errorf("%q of two", s)
					}
					seen[s] = x
				}
			}
		}
	}
	if len(seen) < 5000 {
		t.Errorf("%d rules", len(seen))
	}
}

// leaves is each field of a struct, of those in it too, that is none itself.
func leaves(v reflect.Value, path string, each func(path string, v reflect.Value)) {
	if v.Kind() != reflect.Struct {
		each(path, v)
		return
	}
	for i := range v.NumField() {
		leaves(v.Field(i), path+"."+v.Type().Field(i).Name, each)
	}
}

// others is values for a field other than its own.
func others(v reflect.Value) []reflect.Value {
	var l []reflect.Value
	switch v.Kind() {
	case reflect.Bool:
		l = append(l, reflect.ValueOf(!v.Bool()))
	case reflect.Int:
		for _, n := range []int{1, -1, 256, 65536, 1 << 31, 1 << 32, math.MinInt} {
			l = append(l, reflect.ValueOf(int(v.Int())+n))
		}
	case reflect.Uint32:
		for _, n := range []uint32{1, 1 << 8, 1 << 31, math.MaxUint32} {
			l = append(l, reflect.ValueOf(uint32(v.Uint())+n))
		}
	case reflect.String:
		for _, s := range []string{"", " ", "a", "b", "ext0", "Ext0", v.String() + "0", v.String() + " ", strings.ToUpper(v.String()), strings.Repeat("b", len(v.String()))} {
			if s != v.String() {
				l = append(l, reflect.ValueOf(s))
			}
		}
	}
	return l
}

// P14.2: Same of two that are unlike in one field alone, for each field.
func TestSame(t *testing.T) {
	r := rand.New(rand.NewSource(4))
	rules := []api.Rule{{}, plain(true), plain(false)}
	for range 300 {
		rules = append(rules, some(r))
	}
	fields := map[string]int{}
	for _, a := range rules {
		b := a
		leaves(reflect.ValueOf(&b).Elem(), "", func(path string, v reflect.Value) {
			was := reflect.ValueOf(v.Interface())
			for _, other := range others(v) {
				v.Set(other)
				if Same(a, b) || Same(b, a) {
					t.Errorf("%s: %v is %v", path, was, other)
				}
				if !Same(b, b) {
					t.Errorf("%+v is not itself", b)
				}
				fields[path]++
			}
			v.Set(was)
		})
		if !Same(a, b) || !Same(b, a) {
			t.Errorf("%+v is not itself", a)
		}
	}
	if len(fields) != 28 {
		t.Errorf("%d fields: %v", len(fields), fields)
	}
	for path, n := range fields {
		if n < len(rules) {
			t.Errorf("%s: %d times", path, n)
		}
	}
}

// P14.2: Same holds names by their bytes, wherever these lie, and two rules
// against each other whether they may be or not.
func TestSameNames(t *testing.T) {
	a := with(func(r *api.Rule) { r.On = "ext0" })
	b := with(func(r *api.Rule) { r.On = string([]byte("ext0")) })
	if !Same(a, b) {
		t.Error("two of the same bytes")
	}
	c, d := with(func(r *api.Rule) { r.Table = 4 }), with(func(r *api.Rule) { r.Table = 5 })
	if Same(c, d) || !Same(c, c) {
		t.Error("two that may not be")
	}
	r := rand.New(rand.NewSource(5))
	for range 20000 {
		a, b := some(r), some(r)
		if Same(a, b) != (say(a) == say(b)) {
			t.Errorf("%q, %q: %v", say(a), say(b), Same(a, b))
		}
	}
}

// W1: texts of any bytes and length, rules of any numbers and texts.
func TestAny(t *testing.T) {
	r := rand.New(rand.NewSource(6))
	const bytes = " \t\n<>:/-.0123456789SAFabcpassfromtoanyport\x00\xff"
	for range 20000 {
		b := make([]byte, r.Intn(60))
		for i := range b {
			b[i] = pick(r, bytes[r.Intn(len(bytes))], byte(r.Intn(256)))
		}
		takes(t, string(b))
		Name(string(b))
		hold(t, with(func(r *api.Rule) { r.On = string(b) }))
		hold(t, with(func(r *api.Rule) { r.From.Any, r.From.Table = false, string(b) }))
		hold(t, with(func(r *api.Rule) { r.RouteTo = api.Pin{On: true, Iface: string(b)} }))
	}
	const long = 1 << 20
	for _, x := range []string{" ", "a", "0", "9", "<", ">", ":", "/", "-", "S", "a ", "pass ", "pass from any to any ", "on ", "quick ", "1:", "S/", ".", "\xff"} {
		s := strings.Repeat(x, long/len(x))
		refuses(t, s, "pass on "+s, "pass on "+s+" from any to any", "pass proto "+s+" from any to any", "pass from any to any "+s+"x", "pass from <"+s+"> to any", "pass proto tcp from any port "+s+" to any", "pass proto tcp from any port 1:"+s+" to any", "pass proto tcp from any to any flags "+s+"/S", "pass proto tcp from any to any flags S/"+s, "pass proto icmp from any to any type "+s, "pass from any to any route-to "+s+" 1.2.3.4", "pass from any to any reply-to a 1.2.3."+s, "pass from any to any table "+s)
	}
	blanks := strings.Repeat(" ", long)
	if r, e := Parse(blanks + "pass from" + blanks + "any to any" + blanks); r != plain(true) || e != api.OK {
		t.Errorf("%+v, %v", r, e)
	}
}

// inside tells whether a text lies in another one's memory.
func inside(s, text string) bool {
	at, from := uintptr(unsafe.Pointer(unsafe.StringData(s))), uintptr(unsafe.Pointer(unsafe.StringData(text)))
	return s != "" && at >= from && at < from+uintptr(len(text))
}

// W6: nothing that is handed in is changed, and what is answered shares no memory
// with it.
func TestHandedIn(t *testing.T) {
	const text = "pass on abcd from <efgh> to <ijkl> route-to mnop 1.2.3.4 reply-to qrst 5.6.7.8"
	s := string([]byte(text))
	r, e := Parse(s)
	if e != api.OK || s != text {
		t.Fatal(s, e)
	}
	for _, name := range []string{r.On, r.From.Table, r.To.Table, r.RouteTo.Iface, r.ReplyTo.Iface} {
		if inside(name, s) {
			t.Errorf("%q lies in what was handed in", name)
		}
	}
	was := r
	first := Print(r)
	Name(r.On)
	Is(r)
	Same(r, r)
	Print(plain(false))
	Parse("block from any to any")
	if r != was || first != text || Print(r) != text || s != text {
		t.Errorf("%+v, %q", r, first)
	}
	for _, name := range []string{r.On, r.From.Table, r.To.Table, r.RouteTo.Iface, r.ReplyTo.Iface} {
		if inside(name, first) {
			t.Errorf("%q lies in what was answered", name)
		}
	}
}
