package node_test

import (
	"slices"
	"testing"

	"omnibus/api"
	"omnibus/classic"
	"omnibus/fault"
	"omnibus/fd"
	"omnibus/frame"
	"omnibus/node"
	"omnibus/scan"
	"omnibus/xl"
)

// shapes are frames of all kinds, those that may be.
func shapes() []api.Frame {
	return []api.Frame{
		{Kind: api.Classic, ID: 0x555, Data: []byte{1}},
		{Kind: api.Classic},
		{Kind: api.Classic, ID: 0x7ff, RTR: true},
		{Kind: api.Classic, ID: 0x7ff, Data: []byte{255, 255, 255, 255, 255, 255, 255, 255}},
		{Kind: api.Classic, ID: 0x0f0, Data: []byte{0, 0, 0, 0, 0, 0, 0, 0}},
		{Kind: api.Classic, Ext: true},
		{Kind: api.Classic, ID: 0x15555555, Ext: true, RTR: true},
		{Kind: api.Classic, ID: 0x1fffffff, Ext: true, Data: []byte{0xaa, 0x55}},
		{Kind: api.Classic, ID: 0x10000, Ext: true, Data: []byte{7, 0, 0x80}},
		{Kind: api.FD, ID: 0x555},
		{Kind: api.FD, BRS: true, Data: []byte{0, 0, 0, 0}},
		{Kind: api.FD, ID: 0x7ff, ESI: true, Data: []byte{255, 1, 254}},
		{Kind: api.FD, ID: 0x123, BRS: true, ESI: true, Data: []byte("twenty-four bytes in all")},
		{Kind: api.XL, ID: 0x555, SDT: 3, Data: []byte{1}},
		{Kind: api.XL, Data: []byte{0, 0, 0}},
		{Kind: api.XL, ID: 0x7ff, SEC: true, SDT: 255, VCID: 255, AF: 0xffffffff, Data: []byte{255, 255}},
		{Kind: api.XL, ID: 0x2a0, VCID: 0x12, AF: 0xdeadbeef, Data: []byte{9, 8, 7, 6, 5, 4, 3, 2, 1}},
	}
}

// onTheWire is what a frame that may be is there.
func onTheWire(f api.Frame) api.Wire {
	var w api.Wire
	switch f.Kind {
	case api.Classic:
		w, _ = classic.Wire(f)
	case api.FD:
		w, _ = fd.Wire(f)
	case api.XL:
		w, _ = xl.Wire(f)
	}
	return w
}

// model tells the chapter's words a second time: it keeps all of the row, and asks anew with each bit what that is.
type model struct {
	xl           bool
	phase, count int
	row          []byte
	has          bool
	f            api.Frame
	sent         bool // was at Send since it was Idle last, and didn't lose
	flag         byte
	is           fault.State
}

func (m *model) to(phase int) {
	m.phase, m.count = phase, 0
}

func (m *model) rowIs() scan.Status {
	s, _ := scan.Scan(m.row, m.xl)
	return s
}

func (m *model) count1(event int) {
	m.is, _ = fault.Next(m.is, event)
}

func (m *model) passive() bool {
	return !m.is.Off && (m.is.TEC >= 128 || m.is.REC >= 128)
}

func (m *model) load(f api.Frame) api.Errno {
	switch {
	case frame.Check(f) != api.OK:
		return api.ErrArg
	case f.Kind == api.XL && !m.xl:
		return api.ErrAlien
	case m.has:
		return api.ErrFull
	}
	m.has, m.f = true, frame.Copy(f)
	return api.OK
}

func (m *model) drop() bool {
	if m.has && m.phase != node.Send {
		m.has = false
		return true
	}
	return false
}

func (m *model) restart() bool {
	if m.phase == node.Away {
		m.to(node.Recover)
		return true
	}
	return false
}

func (m *model) out() byte {
	switch m.phase {
	case node.Idle:
		if m.has {
			return 0
		}
	case node.Send:
		return onTheWire(m.f).Bits[m.count]
	case node.Receive:
		if m.rowIs().Kind == scan.Slot {
			return 0
		}
	case node.Flag:
		return m.flag
	case node.Overload:
		return 0
	}
	return 1
}

func (m *model) state() node.State {
	s := node.State{Phase: m.phase, Count: m.count, Fault: m.is, Has: m.has}
	if m.phase == node.Receive {
		s.Count = len(m.row)
	}
	return s
}

func (m *model) wrong(event int, e api.Errno) node.Event {
	m.count1(event)
	m.to(node.Flag)
	m.flag = 0
	if m.passive() {
		m.flag = 1
	}
	if m.is.Off {
		m.to(node.Away)
	}
	return node.Event{Kind: node.Wrong, Err: e}
}

func (m *model) receive(l ...byte) node.Event {
	m.to(node.Receive)
	m.row = l
	switch s := m.rowIs(); s.Kind {
	case scan.Done:
		m.to(node.Last)
		m.count1(fault.Got)
		return node.Event{Kind: node.Got, F: s.F}
	case scan.Bad:
		return m.wrong(fault.GetError, s.Err)
	case scan.Alien:
		m.to(node.Join)
	}
	return node.Event{}
}

func (m *model) send(b byte) node.Event {
	w := onTheWire(m.f)
	at, out := m.count, w.Bits[m.count]
	m.row = append(m.row, b)
	switch {
	case at == w.Ack && b == 1:
		return m.wrong(fault.Unheard, api.ErrNone)
	case at != w.Ack && b != out && out == 1 && at < w.Arb:
		m.sent = false
		e := m.receive(m.row...)
		if e.Kind == node.None {
			e.Kind = node.Lost
		}
		return e
	case at != w.Ack && b != out:
		return m.wrong(fault.SendError, api.ErrForm)
	case at == len(w.Bits)-1:
		m.count1(fault.Sent)
		m.to(node.Pause)
		m.has = false
		return node.Event{Kind: node.Sent, F: m.f}
	}
	m.count++
	return node.Event{}
}

func (m *model) one(last, next int) {
	if m.count++; m.count == last {
		m.to(next)
	}
}

func (m *model) sample(b byte) node.Event {
	switch m.phase {
	case node.Idle:
		m.sent = m.has
		if m.has {
			m.to(node.Send)
			m.row = nil
			return m.send(b)
		}
	case node.Send:
		return m.send(b)
	case node.Receive:
		return m.receive(append(m.row, b)...)
	case node.Flag, node.Overload:
		m.one(6, node.Delim)
		return node.Event{}
	case node.Away:
		return node.Event{}
	}
	if b == 0 {
		return m.zero()
	}
	switch m.phase {
	case node.Join:
		m.one(11, node.Idle)
	case node.Last:
		m.to(node.Pause)
	case node.Delim:
		m.one(8, node.Pause)
	case node.Pause:
		if m.passive() && m.sent {
			m.one(3, node.Suspend)
		} else {
			m.one(3, node.Idle)
		}
	case node.Suspend:
		m.one(8, node.Idle)
	case node.Recover:
		if m.one(176, node.Idle); m.phase == node.Idle {
			m.count1(fault.Restart)
		}
	}
	return node.Event{}
}

// zero is what a 0 does at the phases that only wait.
func (m *model) zero() node.Event {
	switch m.phase {
	case node.Join, node.Delim:
		m.count = 0
	case node.Last:
		m.to(node.Overload)
	case node.Pause:
		if m.count == 2 {
			return m.receive(0)
		}
		m.to(node.Overload)
	case node.Idle, node.Suspend:
		return m.receive(0)
	case node.Recover:
		m.count = m.count / 11 * 11
	}
	return node.Event{}
}

func sameEvent(a, b node.Event) bool {
	return a.Kind == b.Kind && a.Err == b.Err && frame.Same(a.F, b.F)
}

// both are a node and its model, which must answer alike.
type both struct {
	t    *testing.T
	n    *node.Node
	m    *model
	met  map[[3]int]int // phase, bit, and what came
	seen []byte
}

func pair(t *testing.T, knows bool) *both {
	return &both{t: t, n: node.New(knows), m: &model{xl: knows}, met: map[[3]int]int{}}
}

func (x *both) alike() {
	x.t.Helper()
	if x.n.Out() != x.m.out() || x.n.State() != x.m.state() {
		x.t.Fatalf("behind %d bits (.. %v): %+v drives %d, wanted %+v, %d", len(x.seen), x.seen[max(0, len(x.seen)-40):], x.n.State(), x.n.Out(), x.m.state(), x.m.out())
	}
}

func (x *both) take(b byte) node.Event {
	x.t.Helper()
	x.alike()
	x.seen = append(x.seen, b)
	phase := x.m.phase
	is, e := x.n.Sample(b)
	want := x.m.sample(b)
	if e != api.OK || !sameEvent(is, want) {
		x.t.Fatalf("behind %d bits (.. %v), at %d: %+v, %d, wanted %+v", len(x.seen), x.seen[max(0, len(x.seen)-40):], phase, is, e, want)
	}
	x.met[[3]int{phase, int(b), want.Kind}]++
	x.alike()
	return is
}

func (x *both) takeAll(l []byte) {
	x.t.Helper()
	for _, b := range l {
		x.take(b)
	}
}

func (x *both) load(f api.Frame) api.Errno {
	x.t.Helper()
	given := frame.Copy(f)
	is, want := x.n.Load(f), x.m.load(f)
	if is != want || !frame.Same(given, f) {
		x.t.Fatalf("Load(%+v) at %+v: %d, wanted %d", f, x.m.state(), is, want)
	}
	x.alike()
	return is
}

func (x *both) drop() bool {
	x.t.Helper()
	before := x.m.state()
	is, want := x.n.Drop(), x.m.drop()
	if is != want {
		x.t.Fatalf("Drop at %+v: %v", before, is)
	}
	x.alike()
	return is
}

func (x *both) restart() bool {
	x.t.Helper()
	before := x.m.state()
	is, want := x.n.Restart(), x.m.restart()
	if is != want {
		x.t.Fatalf("Restart at %+v: %v", before, is)
	}
	x.alike()
	return is
}

func many(b byte, n int) []byte {
	return slices.Repeat([]byte{b}, n)
}
