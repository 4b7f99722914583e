package classic

import (
	"omnibus/api"
	"omnibus/bits"
)

// low is how many bits of a longer ID stand behind its first eleven.
const low = 18

// row is bits that grow field by field.
type row struct {
	bits []byte
}

// put drops the error, since there is none: the numbers of a frame that may be have room in their fields.
func (r *row) put(n uint32, size int) {
	l, _ := bits.Put(uint64(n), size)
	r.bits = append(r.bits, l...)
}

// putHead puts the fields that arbitrate.
func putHead(f api.Frame, put func(n uint32, size int)) {
	put(0, 1)
	if f.Ext {
		put(f.ID>>low, 11)
		put(3, 2)
		put(f.ID&(1<<low-1), low)
	} else {
		put(f.ID, 11)
	}
	put(flag(f.RTR), 1)
	put(0, 2)
}

func flag(b bool) uint32 {
	if b {
		return 1
	}
	return 0
}
