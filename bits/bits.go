// Package bits is layer 1: see shared/doc/01-bits.md.
package bits

import "omnibus/api"

// Check says whether a row is bits.
func Check(l []byte) api.Errno {
	if len(l) > api.MaxBits {
		return api.ErrArg
	}
	for _, b := range l {
		if b > 1 {
			return api.ErrArg
		}
	}
	return api.OK
}

// Put is a number's bits, the highest first.
func Put(n uint64, size int) ([]byte, api.Errno) {
	if size < 0 || size > 64 || n>>size != 0 {
		return nil, api.ErrArg
	}
	r := newRow(size)
	r.number(n, size)
	return r.bits, api.OK
}

// Get is some bits' number.
func Get(l []byte) (uint64, api.Errno) {
	if len(l) > 64 || Check(l) != api.OK {
		return 0, api.ErrArg
	}
	var x number
	each(l, x.bit)
	return x.n, api.OK
}

// Bytes are bytes' bits, the highest of each first.
func Bytes(b []byte) []byte {
	r := newRow(8 * len(b))
	each(b, r.octet)
	return r.bits
}

// Pack is bits' bytes.
func Pack(l []byte) ([]byte, api.Errno) {
	if e := Check(l); e != api.OK {
		return nil, e
	}
	if len(l)%8 != 0 {
		return nil, api.ErrShort
	}
	o := octets{bytes: make([]byte, 0, len(l)/8)}
	each(l, o.bit)
	return o.bytes, api.OK
}

// Text is bits as a text.
func Text(l []byte) (string, api.Errno) {
	if e := Check(l); e != api.OK {
		return "", e
	}
	t := text{letters: make([]byte, 0, len(l))}
	each(l, t.bit)
	return string(t.letters), api.OK
}

// Read is a text's bits; blanks only part them.
func Read(s string) ([]byte, api.Errno) {
	r := reader{row: newRow(min(len(s), api.MaxBits))}
	each(s, r.letter)
	if r.wrong {
		return nil, api.ErrArg
	}
	return r.bits, api.OK
}

// Run is how many bytes alike a row ends with, be they bits or not.
func Run(l []byte) int {
	n := 0
	for n < len(l) && l[len(l)-1-n] == l[len(l)-1] {
		n++
	}
	return n
}
