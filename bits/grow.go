package bits

import "omnibus/api"

// each hands all bytes on, in order, to what grows of them.
func each[L string | []byte](l L, take func(byte)) {
	for i := range len(l) {
		take(l[i])
	}
}

// row is bits that grow, by a bit, by a number's bits, or by a byte's.
type row struct {
	bits []byte
}

func newRow(room int) row {
	return row{bits: make([]byte, 0, room)}
}

func (r *row) bit(b byte) {
	r.bits = append(r.bits, b)
}

func (r *row) number(n uint64, size int) {
	for i := range size {
		r.bit(byte(n >> (size - 1 - i) & 1))
	}
}

func (r *row) octet(b byte) {
	r.number(uint64(b), 8)
}

// number is one that grows bit by bit.
type number struct {
	n uint64
}

func (x *number) bit(b byte) {
	x.n = x.n<<1 | uint64(b)
}

// octets are bytes that grow bit by bit; the last one may have some of its bits only.
type octets struct {
	bytes []byte
	seen  int
}

func (o *octets) bit(b byte) {
	if o.seen%8 == 0 {
		o.bytes = append(o.bytes, 0)
	}
	last := len(o.bytes) - 1
	o.bytes[last] = o.bytes[last]<<1 | b
	o.seen++
}

// text is letters that grow bit by bit.
type text struct {
	letters []byte
}

func (t *text) bit(b byte) {
	t.letters = append(t.letters, '0'+b)
}

// reader is bits that grow letter by letter, until a letter is wrong.
type reader struct {
	row
	wrong bool
}

func (r *reader) letter(c byte) {
	switch {
	case r.wrong || c == ' ':
	case c != '0' && c != '1', len(r.bits) == api.MaxBits:
		// No more is kept than a row may have, however long the text is.
		r.wrong = true
	default:
		r.bit(c - '0')
	}
}
