package bus

import (
	"slices"

	"omnibus/api"
)

// line is the last MaxBits bits. Once there are as many, the oldest one, at next, makes room for each that comes.
type line struct {
	bits []byte
	next int
}

func (l *line) add(b byte) {
	if len(l.bits) < api.MaxBits {
		l.bits = append(l.bits, b)
		return
	}
	l.bits[l.next] = b
	l.next = (l.next + 1) % api.MaxBits
}

// all are these, the oldest one first, in new memory.
func (l *line) all() []byte {
	return slices.Concat(l.bits[l.next:], l.bits[:l.next])
}
