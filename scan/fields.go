package scan

import (
	"omnibus/api"
	"omnibus/bits"
	"omnibus/crc"
	"omnibus/fixed"
	"omnibus/frame"
)

// number lets the next bits be a number, the highest first, that is handed on with the last one. There is at least one bit.
func (m *Machine) number(size int, then func(n uint64)) {
	n := uint64(0)
	m.next = func(b byte) {
		n = n<<1 | uint64(b)
		size--
		if size == 0 {
			then(n)
		}
	}
}

// must lets the next bits be such as must be these. There is at least one.
func (m *Machine) must(then func(), want ...byte) {
	m.next = func(b byte) {
		if b != want[0] {
			m.bad(api.ErrForm)
			return
		}
		want = want[1:]
		if len(want) == 0 {
			then()
		}
	}
}

// flag lets the next bit tell a field of one bit.
func (m *Machine) flag(field *bool, then func()) {
	m.number(1, func(n uint64) {
		*field = n == 1
		then()
	})
}

// size lets the next bits be a size's code. It is held against what may be once all of it is there.
func (m *Machine) size(digits int, then func(size int)) {
	m.number(digits, func(code uint64) {
		size, e := frame.Size(m.f.Kind, int(code))
		if e != api.OK || m.f.RTR && size != 0 {
			m.bad(api.ErrForm)
			return
		}
		then(size)
	})
}

// data lets the next bits be so many bytes of Data, if there are any.
func (m *Machine) data(size int, then func()) {
	if size == 0 {
		then()
		return
	}
	m.number(8, func(n uint64) {
		m.f.Data = append(m.f.Data, byte(n))
		m.data(size-1, then)
	})
}

// check lets the next bits be a number that should be this one. What isn't right is only noted, since it is told behind the slot.
func (m *Machine) check(want uint64, size int, then func()) {
	m.number(size, func(n uint64) {
		m.wrong = m.wrong || n != want
		then()
	})
}

// sum lets the next bits be the sum of what is ahead of them.
func (m *Machine) sum(kind int, then func()) {
	m.check(m.reached[kind], crc.Size(kind), then)
}

// tally lets the next bits be the tally of the stuff bits. It drops the errors, since there are none: a number from 0 on has a tally, and that is bits.
func (m *Machine) tally(then func()) {
	l, _ := fixed.Tally(m.stuffs)
	want, _ := bits.Get(l)
	m.check(want, len(l), then)
}
