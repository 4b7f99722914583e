package crc

// rule is what a kind's sum goes by. The polynomial is told without its highest term.
type rule struct {
	size        int
	poly, start uint64
}

// kinds are the rules, each at its kind's number. One of size 0 is none.
var kinds = [...]rule{
	C15: {15, 0x4599, 0},
	C17: {17, 0x1685B, 0x10000},
	C21: {21, 0x102899, 0x100000},
	P13: {13, 0x19E7, 1},
	F32: {32, 0xF4ACFB13, 1},
}

// find is a kind's rule, or the zero one, if there is no such kind.
func find(kind int) rule {
	if kind < 0 || kind >= len(kinds) {
		return rule{}
	}
	return kinds[kind]
}

// register is a sum that takes bits.
type register struct {
	rule
	sum uint64
}

func (r *register) take(b byte) {
	top := r.sum >> (r.size - 1)
	r.sum = r.sum << 1 & (1<<r.size - 1)
	if top != uint64(b) {
		r.sum ^= r.poly
	}
}

// each hands all bits on, in order, to what takes them.
func each(l []byte, take func(byte)) {
	for _, b := range l {
		take(b)
	}
}
