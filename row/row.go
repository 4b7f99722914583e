// Package row is what layers 6 to 8 share: a frame's bits, field by field, and what of them is one on the wire for all kinds.
package row

import (
	"slices"

	"omnibus/api"
	"omnibus/bits"
	"omnibus/stuff"
)

// aheadOfSlot is how many of the 1s behind a frame's other bits, the delimiter, stand ahead of the slot.
const aheadOfSlot = 1

// Behind is how many 1s stand behind a frame's other bits on the wire.
const Behind = 10

// Row is bits that grow field by field.
type Row struct {
	Bits []byte
}

// Put puts a number. It drops the error, since there is none: the numbers of a frame that may be have room in their fields.
func (r *Row) Put(n uint32, size int) {
	l, _ := bits.Put(uint64(n), size)
	r.Bits = append(r.Bits, l...)
}

// Bytes puts bytes.
func (r *Row) Bytes(b []byte) {
	r.Bits = append(r.Bits, bits.Bytes(b)...)
}

// Flag is the number of a field of one bit.
func Flag(b bool) uint32 {
	if b {
		return 1
	}
	return 0
}

// Stuff is stuffed bits, and how many raw ones the first n bits take.
func Stuff(l []byte, n int) ([]byte, int, api.Errno) {
	raw, e := stuff.Put(l)
	if e != api.OK {
		return nil, 0, e
	}
	_, taken, e := stuff.Take(raw, n)
	if e != api.OK {
		return nil, 0, e
	}
	return raw, taken, api.OK
}

// Wire is a frame's raw bits with all 1s behind.
func Wire(raw []byte, arb int) api.Wire {
	ones := slices.Repeat([]byte{1}, Behind)
	return api.Wire{Bits: slices.Concat(raw, ones), Arb: arb, Ack: len(raw) + aheadOfSlot}
}
