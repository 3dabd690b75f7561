// Package word is numbers in bytes: see DOC.md, chapter 1.
package word

// mostBytes is the most that one answer may have for the document's promises to hold.
const mostBytes = 1<<31 - 1

// Get16 is a number of two bytes.
func Get16(b []byte, at int) int {
	return int(byteAt(b, at, 0))<<8 | int(byteAt(b, at, 1))
}

// Get32 is a number of four bytes.
func Get32(b []byte, at int) uint32 {
	var n uint32
	for i := range 4 {
		n = n<<8 | uint32(byteAt(b, at, i))
	}
	return n
}

// byteAt is the byte i behind at, 0 where there is none. The bounds are moved
// by i, not at itself, since at may be the greatest int and must not wrap.
func byteAt(b []byte, at, i int) byte {
	if at < -i || at >= len(b)-i {
		return 0
	}
	return b[at+i]
}

// Put16 is a number in two bytes.
func Put16(n int) []byte {
	// A shift keeps the sign, so a number below 0 comes out modulo 65536 too.
	return []byte{byte(n >> 8), byte(n)}
}

// Put32 is a number in four bytes.
func Put32(n uint32) []byte {
	return []byte{byte(n >> 24), byte(n >> 16), byte(n >> 8), byte(n)}
}

// Join is all, one behind the other.
func Join(l ...[]byte) []byte {
	// It begins with nil, never with l[0], whose spare room isn't ours.
	var all []byte
	for _, b := range l {
		all = append(all, b...)
	}
	return all
}

// Pad is bytes, and noughts behind.
func Pad(b []byte, to int) []byte {
	size := len(b)
	// Beyond the bound nothing is promised, but making such a list would panic.
	if to > size && to <= mostBytes {
		size = to
	}
	padded := make([]byte, size)
	copy(padded, b)
	return padded
}
