package rule

import (
	"strconv"

	"castellan/addr"
	"castellan/api"
)

// when is a list, and behind it these words, if they are to stand there.
func when(l []string, stand bool, words ...string) []string {
	if !stand {
		return l
	}
	return append(l, words...)
}

// side is a list, and behind it a side's words.
func side(l []string, word string, s api.Side) []string {
	l = append(l, word, endText(s))
	return when(l, s.Ports != all(), "port", portsText(s.Ports))
}

// pin is a list, and behind it a pin's words, if it is on.
func pin(l []string, word string, p api.Pin) []string {
	return when(l, p.On, word, p.Iface, addr.Print(p.Gate))
}

// protoText is a protocol as a word.
func protoText(n int) string {
	switch n {
	case api.ICMP:
		return "icmp"
	case api.TCP:
		return "tcp"
	case api.UDP:
		return "udp"
	}
	return strconv.Itoa(n)
}

// endText is a side without its ports as a word.
func endText(s api.Side) string {
	switch {
	case s.Any:
		return "any"
	case s.Table != "":
		return "<" + s.Table + ">"
	}
	return addr.PrintPrefix(s.Prefix)
}

// portsText is ports as a word.
func portsText(p api.Ports) string {
	low := strconv.Itoa(p.Low)
	if p.Low == p.High {
		return low
	}
	return low + ":" + strconv.Itoa(p.High)
}

// flagsText is flags as a part of a word.
func flagsText(flags int) string {
	if flags == 0 {
		return none
	}
	var s []byte
	for i := range len(letters) {
		if flags>>i&1 == 1 {
			s = append(s, letters[i])
		}
	}
	return string(s)
}
