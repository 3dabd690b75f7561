package rule

import (
	"strconv"
	"strings"

	"castellan/addr"
	"castellan/api"
)

// words is the words of a text that are not yet taken.
type words struct {
	next string // empty: there is none
	rest string // what stands behind next
	bad  bool   // whether one was taken that may not stand where it stood
}

// begin is the words of a text.
func begin(s string) *words {
	w := &words{rest: s}
	w.take()
	return w
}

// take takes the next word.
func (w *words) take() string {
	was := w.next
	w.next, w.rest, _ = strings.Cut(strings.TrimLeft(w.rest, blank), blank)
	return was
}

// maybe tells whether the next word is this one, and takes it if it is.
func (w *words) maybe(word string) bool {
	if w.next != word {
		return false
	}
	w.take()
	return true
}

// must holds what has been taken to be good only if ok.
func (w *words) must(ok bool) {
	w.bad = w.bad || !ok
}

// rule takes the words of a rule. What they say of each other is for Is to ask.
func (w *words) rule() api.Rule {
	var r api.Rule
	r.Pass = w.maybe("pass")
	w.must(r.Pass || w.maybe("block"))
	r.Return = w.maybe("return")
	r.Quick = w.maybe("quick")
	if w.maybe("on") {
		r.On = w.name()
	}
	r.Proto = w.proto()
	r.From = w.side("from")
	r.To = w.side("to")
	r.Set, r.Mask = w.flags()
	r.Type = w.number("type", 0, topType, anyType)
	r.Keep = w.maybe("keep")
	r.RouteTo = w.pin("route-to")
	r.ReplyTo = w.pin("reply-to")
	r.Table = w.number("table", 1, topTable, 0)
	return r
}

// name takes a name.
func (w *words) name() string {
	return w.named(w.take())
}

// named is a part of a word as a name. It is a copy, so that a rule does not
// keep all of the text in which it stood.
func (w *words) named(s string) string {
	w.must(Name(s))
	return strings.Clone(s)
}

// number takes a word and the number behind it; without the word it is another.
func (w *words) number(word string, low, high, without int) int {
	if !w.maybe(word) {
		return without
	}
	return w.digits(w.take(), low, high)
}

// digits is a part of a word as a number. strconv takes signs and noughts ahead,
// which no number is told with.
func (w *words) digits(s string, low, high int) int {
	n, err := strconv.Atoi(s)
	w.must(err == nil && strconv.Itoa(n) == s && of(n, low, high))
	return n
}

// proto takes a protocol, if there is one.
func (w *words) proto() int {
	if !w.maybe("proto") {
		return 0
	}
	s := w.take()
	for _, n := range [...]int{api.ICMP, api.TCP, api.UDP} {
		if s == protoText(n) {
			return n
		}
	}
	n := w.digits(s, 1, topProto)
	// A number whose protocol has a name is not told as a number.
	w.must(s == protoText(n))
	return n
}

// side takes a side, and the word ahead of it.
func (w *words) side(word string) api.Side {
	w.must(w.maybe(word))
	s := w.end(w.take())
	s.Ports = w.ports()
	return s
}

// end is a word as a side without ports.
func (w *words) end(word string) api.Side {
	if word == "any" {
		return api.Side{Any: true}
	}
	if inner, ok := strings.CutPrefix(word, "<"); ok {
		name, ok := strings.CutSuffix(inner, ">")
		w.must(ok)
		return api.Side{Table: w.named(name)}
	}
	p, e := addr.ParsePrefix(word)
	w.must(e == api.OK)
	return api.Side{Prefix: p}
}

// ports takes ports; without them they are all.
func (w *words) ports() api.Ports {
	if !w.maybe("port") {
		return all()
	}
	first, last, two := strings.Cut(w.take(), ":")
	low := w.digits(first, 0, topPort)
	if !two {
		return api.Ports{Low: low, High: low}
	}
	high := w.digits(last, 0, topPort)
	w.must(low != high)
	return api.Ports{Low: low, High: high}
}

// flags takes flags, if there are any: those that must be set, and those that
// are asked.
func (w *words) flags() (set, mask int) {
	if !w.maybe("flags") {
		return 0, 0
	}
	first, last, _ := strings.Cut(w.take(), "/")
	set, mask = w.letters(first), w.letters(last)
	// Where none is asked, no word says so.
	w.must(mask != 0)
	return set, mask
}

// letters is a part of a word as flags.
func (w *words) letters(s string) int {
	if s == none {
		return 0
	}
	w.must(s != "")
	flags := 0
	for i := range len(letters) {
		rest, ok := strings.CutPrefix(s, letters[i:i+1])
		if ok {
			s = rest
			flags |= 1 << i
		}
	}
	w.must(s == "")
	return flags
}

// pin takes a pin, if its word is there.
func (w *words) pin(word string) api.Pin {
	if !w.maybe(word) {
		return api.Pin{}
	}
	name := w.name()
	gate, e := addr.Parse(w.take())
	w.must(e == api.OK)
	return api.Pin{On: true, Iface: name, Gate: gate}
}
