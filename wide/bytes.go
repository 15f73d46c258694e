package wide

import "carousel/api"

// A Wide takes two words of so many bytes each.
const wordBytes = 8

// Put writes one.
func Put(a api.Wide) []byte {
	b := make([]byte, 2*wordBytes)
	putWord(b[:wordBytes], uint64(a.Hi))
	putWord(b[wordBytes:], a.Lo)
	return b
}

// Get reads one.
func Get(b []byte) (api.Wide, api.Errno) {
	if len(b) != 2*wordBytes {
		return api.Wide{}, api.EFORM
	}
	return api.Wide{Hi: int64(word(b[:wordBytes])), Lo: word(b[wordBytes:])}, api.OK
}

// putWord fills b from its end, where the lowest byte stands.
func putWord(b []byte, n uint64) {
	for i := len(b) - 1; i >= 0; i-- {
		b[i] = byte(n)
		n >>= 8
	}
}

// word reads what putWord wrote.
func word(b []byte) uint64 {
	n := uint64(0)
	for _, c := range b {
		n = n<<8 | uint64(c)
	}
	return n
}
