package scan

import (
	"omnibus/api"
	"omnibus/crc"
)

// low is how many bits of a longer ID stand behind its first eleven.
const low = 18

// shorter is how many bytes of Data of an FD frame the shorter sum is for at most.
const shorter = 16

// begin begins a row. Which sums are of use isn't known till the kind is.
func (m *Machine) begin() {
	m.raw = m.stuffed
	m.start()
	m.ofRaw = []int{crc.C17, crc.C21}
	m.ofPlain = []int{crc.C15, crc.P13}
	m.must(m.top, 0)
}

func (m *Machine) top() {
	m.number(11, m.identified)
}

func (m *Machine) identified(n uint64) {
	m.f.ID = uint32(n)
	m.number(2, m.longOrNot)
}

// longOrNot goes on by the two bits behind the ID's first eleven.
func (m *Machine) longOrNot(n uint64) {
	switch n {
	case 3:
		m.f.Ext = true
		m.number(low, m.prolonged)
	case 1:
		m.bad(api.ErrForm)
	default:
		m.f.RTR = n == 2
		m.number(1, m.classicOrNot)
	}
}

func (m *Machine) prolonged(n uint64) {
	m.f.ID = m.f.ID<<low | uint32(n)
	m.flag(&m.f.RTR, func() { m.must(m.classic, 0, 0) })
}

func (m *Machine) classicOrNot(n uint64) {
	switch {
	case n == 0:
		m.classic()
	case m.f.RTR:
		m.bad(api.ErrForm)
	default:
		m.number(1, m.fdOrXL)
	}
}

func (m *Machine) fdOrXL(n uint64) {
	switch {
	case n == 0:
		m.fd()
	case m.xl:
		m.must(m.headed, 0)
	default:
		m.end(Status{Kind: Alien})
	}
}

// classic goes on behind all that arbitrates.
func (m *Machine) classic() {
	m.f.Kind = api.Classic
	m.ofRaw, m.ofPlain = nil, []int{crc.C15}
	m.size(4, func(size int) {
		m.data(size, func() { m.sum(crc.C15, m.tail) })
	})
}

// fd goes on behind the bit that tells an FD frame.
func (m *Machine) fd() {
	m.f.Kind = api.FD
	m.ofPlain = nil
	m.flag(&m.f.BRS, func() {
		m.flag(&m.f.ESI, func() { m.size(4, m.sized) })
	})
}

// sized goes on with an FD frame's Data. The sum is one of raw bits up to the fixed part, and of bits in that.
func (m *Machine) sized(size int) {
	kind := crc.C17
	if size > shorter {
		kind = crc.C21
	}
	m.ofRaw = []int{kind}
	m.data(size, func() {
		m.raw = m.spaced
		m.every, m.since = 4, 4
		m.ofPlain = []int{kind}
		m.tally(func() { m.sum(kind, m.tail) })
	})
}

// headed goes on behind an XL frame's head.
func (m *Machine) headed() {
	m.f.Kind = api.XL
	m.raw = m.bare
	m.must(m.dataPart, 1, 0, 0, 1)
}

func (m *Machine) dataPart() {
	m.raw = m.spaced
	m.every, m.since = 8, 0
	m.ofRaw, m.ofPlain = nil, []int{crc.P13, crc.F32}
	m.number(8, func(n uint64) {
		m.f.SDT = uint8(n)
		m.flag(&m.f.SEC, func() { m.size(11, m.checked) })
	})
}

// checked goes on with an XL frame's tally, and the first one of its sums.
func (m *Machine) checked(size int) {
	m.tally(func() {
		m.sum(crc.P13, func() {
			m.ofPlain = []int{crc.F32}
			m.number(8, func(n uint64) {
				m.f.VCID = uint8(n)
				m.number(32, func(n uint64) {
					m.f.AF = uint32(n)
					m.data(size, func() { m.sum(crc.F32, m.trailed) })
				})
			})
		})
	})
}

// trailed goes on behind an XL frame's data part.
func (m *Machine) trailed() {
	m.raw = m.bare
	m.must(m.tail, 0, 1, 1, 0)
}

// tail goes on with what all kinds end with.
func (m *Machine) tail() {
	m.raw = m.bare
	m.must(m.delimited, 1)
}

func (m *Machine) delimited() {
	if !m.wrong {
		m.is.Kind = Slot
	}
	m.next = m.slot
}

func (m *Machine) slot(byte) {
	m.is.Kind = More
	m.next = m.behind
}

// behind takes the bit behind the slot: what isn't right of the sums and tallies is told first.
func (m *Machine) behind(b byte) {
	if m.wrong {
		m.bad(api.ErrCrc)
		return
	}
	m.must(m.done, 1, 1, 1, 1, 1, 1, 1)
	m.next(b)
}

func (m *Machine) done() {
	m.end(Status{Kind: Done, F: m.f})
}
