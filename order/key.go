package order

import "omnibus/api"

// low is how many bits of a longer ID stand behind its first eleven.
const low = 18

// Where the fields of a key stand: how many bits are behind each.
const (
	behindID    = 23
	behindRTR   = 22
	behindExt   = 21
	behindOther = 20
	behindXL    = 19

	behindLow     = 3
	behindLongRTR = 2
)

// short is the key of a frame without Ext. Its last bits are 0, since it has nothing more that arbitrates.
func short(f api.Frame) uint64 {
	return uint64(f.ID)<<behindID |
		flag(f.RTR)<<behindRTR |
		flag(f.Kind != api.Classic)<<behindOther |
		flag(f.Kind == api.XL)<<behindXL
}

// long is the key of a frame with Ext: on the wire, too, a 1 stands where a short one has its RTR.
func long(f api.Frame) uint64 {
	return uint64(f.ID>>low)<<behindID |
		1<<behindRTR |
		1<<behindExt |
		uint64(f.ID%(1<<low))<<behindLow |
		flag(f.RTR)<<behindLongRTR
}

func flag(b bool) uint64 {
	if b {
		return 1
	}
	return 0
}
