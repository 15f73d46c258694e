package pack

import "bytes"

// Reader reads numbers.
type Reader struct {
	rest   []byte
	spoilt bool
}

// Read begins to read.
func Read(b []byte) *Reader { return &Reader{rest: bytes.Clone(b)} }

// U8 reads a byte.
func (r *Reader) U8() int { return int(r.number(1)) }

// U16 reads two.
func (r *Reader) U16() int { return int(r.number(bytes16)) }

// U32 reads four.
func (r *Reader) U32() uint32 { return uint32(r.number(bytes32)) }

// U64 reads eight.
func (r *Reader) U64() uint64 { return r.number(bytes64) }

// Bytes reads so many.
func (r *Reader) Bytes(n int) []byte { return bytes.Clone(r.take(n)) }

// End tells whether all was read, and was there.
func (r *Reader) End() bool { return !r.spoilt && len(r.rest) == 0 }

// number is 0 where take has nothing.
func (r *Reader) number(n int) uint64 {
	v := uint64(0)
	for _, c := range r.take(n) {
		v = v<<8 | uint64(c)
	}
	return v
}

// take answers a part of the Reader's own memory, for reading alone. A Reader that is spoilt lets go
// of its rest, so that nothing is there for any later call.
func (r *Reader) take(n int) []byte {
	if n < 0 || n > len(r.rest) {
		r.rest, r.spoilt = nil, true
		return nil
	}
	part := r.rest[:n]
	r.rest = r.rest[n:]
	return part
}
