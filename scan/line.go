package scan

import (
	"omnibus/api"
	"omnibus/crc"
)

// most is how many raw bits alike may stand one behind the other where stuff bits part them.
const most = 5

// line is what has to be known of the raw bits to tell stuff bits from the others: how the next one is taken, the run of bits alike that they end with, how many stuff bits stood behind five alike, and how many bits stand between two at fixed places, and have stood there since the last one.
type line struct {
	raw          func(b byte)
	last         byte
	alike        int
	stuffs       int
	every, since int
}

func (l *line) add(b byte) {
	if b != l.last {
		l.last, l.alike = b, 0
	}
	l.alike++
}

// sums are check sums that go on bit by bit, each at its kind's number, and the kinds that are still of use: those that are of raw bits, and those of bits without stuff bits.
type sums struct {
	reached        [crc.F32 + 1]uint64
	ofRaw, ofPlain []int
}

// start drops the errors, as feed does, since there are none: the kinds are known ones, the bits are bits.
func (s *sums) start() {
	for kind := crc.C15; kind <= crc.F32; kind++ {
		s.reached[kind], _ = crc.Sum(kind, nil)
	}
}

func (s *sums) feed(kinds []int, b byte) {
	for _, kind := range kinds {
		s.reached[kind], _ = crc.More(kind, s.reached[kind], []byte{b})
	}
}

// take takes a raw bit. The row begins with the first one, not with New, so that a Machine that is zero is one, too.
func (m *Machine) take(b byte) {
	if m.raw == nil {
		m.begin()
	}
	m.seen++
	m.raw(b)
}

// stuffed takes a raw bit where stuff bits stand behind five alike.
func (m *Machine) stuffed(b byte) {
	due := m.alike == most
	if due && b == m.last {
		m.bad(api.ErrStuff)
		return
	}
	m.add(b)
	m.feed(m.ofRaw, b)
	if due {
		m.stuffs++
		return
	}
	m.feed(m.ofPlain, b)
	m.next(b)
}

// spaced takes a raw bit where stuff bits stand at fixed places.
func (m *Machine) spaced(b byte) {
	due := m.since == m.every
	if due && b == m.last {
		m.bad(api.ErrStuff)
		return
	}
	m.add(b)
	if due {
		m.since = 0
		return
	}
	m.since++
	m.feed(m.ofPlain, b)
	m.next(b)
}

// bare takes a raw bit where there are no stuff bits, and of which there is no sum.
func (m *Machine) bare(b byte) {
	m.next(b)
}

// over takes a raw bit behind the row's end.
func (m *Machine) over(byte) {}

// end makes the row what it stays from now on. All that was kept to read it is forgotten.
func (m *Machine) end(is Status) {
	*m = Machine{xl: m.xl, seen: m.seen, is: is}
	m.raw = m.over
}

func (m *Machine) bad(e api.Errno) {
	m.end(Status{Kind: Bad, Err: e})
}
