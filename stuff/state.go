package stuff

import (
	"omnibus/api"
	"omnibus/bits"
)

// most is how many bits alike may stand one behind the other.
const most = 5

// each hands bits on, in order, till what takes them refuses one. It answers how many were taken.
func each(l []byte, take func(byte) bool) int {
	for i, b := range l {
		if !take(b) {
			return i
		}
	}
	return len(l)
}

// run is the bits alike that a raw row ends with, stuff bits among them: what they are, and how many.
type run struct {
	of   byte
	size int
}

func (r *run) add(b byte) {
	if b != r.of {
		*r = run{of: b}
	}
	r.size++
}

// full says that the next raw bit is a stuff bit.
func (r *run) full() bool {
	return r.size == most
}

// writer is the state of a raw row that is made of bits.
type writer struct {
	run
	raw []byte
}

// take makes a stuff bit only once another bit has come: a row that ends with five alike has none behind them.
func (w *writer) take(b byte) bool {
	if w.full() {
		w.add(1 - w.of)
	}
	w.add(b)
	return true
}

func (w *writer) add(b byte) {
	w.run.add(b)
	w.raw = append(w.raw, b)
}

// reader is the state of a raw row that is read: the bits that it told, whether the last raw one was a stuff bit, and whether a stuff bit wasn't one.
type reader struct {
	run
	want    int
	bits    []byte
	stuffed bool
	wrong   bool
}

func (r *reader) take(b byte) bool {
	if len(r.bits) == r.want {
		return false
	}
	r.stuffed = r.full()
	if r.stuffed && b == r.of {
		r.wrong = true
		return false
	}
	r.add(b)
	if !r.stuffed {
		r.bits = append(r.bits, b)
	}
	return true
}

// read goes through a raw row till it has told as many bits as are wanted, and no further: what is wrong behind them is not looked at. It answers how many raw ones that took, too.
func read(raw []byte, want int) (reader, int, api.Errno) {
	if e := bits.Check(raw); e != api.OK {
		return reader{}, 0, e
	}
	r := reader{want: want, bits: make([]byte, 0, min(want, len(raw)))}
	taken := each(raw, r.take)
	if r.wrong {
		return reader{}, 0, api.ErrStuff
	}
	return r, taken, api.OK
}

// readAll goes to the row's end, since it can't tell more bits than it has raw ones.
func readAll(raw []byte) (reader, api.Errno) {
	r, _, e := read(raw, len(raw))
	return r, e
}
