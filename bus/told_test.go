package bus_test

import (
	"math/rand"
	"slices"
	"testing"

	"omnibus/api"
	"omnibus/bus"
	"omnibus/classic"
	"omnibus/fd"
	"omnibus/frame"
	"omnibus/node"
	"omnibus/xl"
)

// model tells the chapter's words a second time, of nodes that it asks one by one.
type model struct {
	nodes []*node.Node
	line  []byte
}

func modelOf(knows []bool) *model {
	m := &model{}
	for _, xl := range knows {
		m.nodes = append(m.nodes, node.New(xl))
	}
	return m
}

// step turns the samples of the nodes that are told by their places.
func (m *model) step(turned map[int]bool) []node.Event {
	driven := 0
	for _, n := range m.nodes {
		if n.Out() == 0 {
			driven++
		}
	}
	there, other := byte(1), byte(0)
	if driven > 0 {
		there, other = 0, 1
	}
	m.line = append(m.line, there)
	var l []node.Event
	for i, n := range m.nodes {
		b := there
		if turned[i] {
			b = other
		}
		is, _ := n.Sample(b)
		l = append(l, is)
	}
	return l
}

// last are the last MaxBits bits of all that the wire had.
func (m *model) last() []byte {
	return m.line[max(0, len(m.line)-65536):]
}

// number tells places as Step takes them.
func number(turned map[int]bool) uint32 {
	var n uint32
	value := uint32(1)
	for i := range 32 {
		if turned[i] {
			n += value
		}
		value *= 2
	}
	return n
}

func sameEvents(a, b []node.Event) bool {
	return slices.EqualFunc(a, b, func(x, y node.Event) bool {
		return x.Kind == y.Kind && x.Err == y.Err && frame.Same(x.F, y.F)
	})
}

// both are a bus and its model, which must answer alike.
type both struct {
	t *testing.T
	b *bus.Bus
	m *model
}

func pair(t *testing.T, knows []bool) *both {
	t.Helper()
	return &both{t: t, b: busOf(t, knows), m: modelOf(knows)}
}

func (x *both) alike() {
	x.t.Helper()
	for i, n := range x.m.nodes {
		if s, e := x.b.State(i); s != n.State() || e != api.OK {
			x.t.Fatalf("behind %d steps, node %d: %+v, %d, wanted %+v", len(x.m.line), i, s, e, n.State())
		}
	}
}

func (x *both) step(turned map[int]bool) []node.Event {
	x.t.Helper()
	is, e := x.b.Step(number(turned))
	want := x.m.step(turned)
	if e != api.OK || !sameEvents(is, want) {
		x.t.Fatalf("step %d, turned %v: %+v, %d, wanted %+v", len(x.m.line), turned, is, e, want)
	}
	x.alike()
	return is
}

func (x *both) load(i int, f api.Frame) api.Errno {
	x.t.Helper()
	is, want := x.b.Load(i, f), x.m.nodes[i].Load(f)
	if is != want {
		x.t.Fatalf("behind %d steps, Load(%d, %+v): %d, wanted %d", len(x.m.line), i, f, is, want)
	}
	x.alike()
	return is
}

func (x *both) drop(i int) bool {
	x.t.Helper()
	is, e := x.b.Drop(i)
	return x.told("Drop", i, is, e, x.m.nodes[i].Drop())
}

func (x *both) restart(i int) bool {
	x.t.Helper()
	is, e := x.b.Restart(i)
	return x.told("Restart", i, is, e, x.m.nodes[i].Restart())
}

// told holds what a call of the bus said against what the node did.
func (x *both) told(call string, i int, is bool, e api.Errno, want bool) bool {
	x.t.Helper()
	if is != want || e != api.OK {
		x.t.Fatalf("behind %d steps, %s(%d): %v, %d, wanted %v", len(x.m.line), call, i, is, e, want)
	}
	x.alike()
	return is
}

func (x *both) lineIs() {
	x.t.Helper()
	if l := x.b.Line(); !slices.Equal(l, x.m.last()) {
		x.t.Fatalf("behind %d steps: a line of %d bits", len(x.m.line), len(l))
	}
}

func busOf(t *testing.T, knows []bool) *bus.Bus {
	t.Helper()
	b, e := bus.New(knows)
	if b == nil || e != api.OK {
		t.Fatalf("New(%v): %d", knows, e)
	}
	return b
}

// xls are nodes that all know XL frames.
func xls(n int) []bool {
	return slices.Repeat([]bool{true}, n)
}

func give(t *testing.T, b *bus.Bus, i int, f api.Frame) {
	t.Helper()
	if e := b.Load(i, f); e != api.OK {
		t.Fatalf("Load(%d, %+v): %d", i, f, e)
	}
}

func step(t *testing.T, b *bus.Bus, turned uint32) []node.Event {
	t.Helper()
	l, e := b.Step(turned)
	if len(l) != b.Len() || e != api.OK {
		t.Fatalf("Step(%d): %+v, %d", turned, l, e)
	}
	return l
}

// steps are some, none of them turned.
func steps(t *testing.T, b *bus.Bus, n int) {
	t.Helper()
	for range n {
		step(t, b, 0)
	}
}

func state(t *testing.T, b *bus.Bus, i int) node.State {
	t.Helper()
	s, e := b.State(i)
	if e != api.OK {
		t.Fatalf("State(%d): %d", i, e)
	}
	return s
}

func states(t *testing.T, b *bus.Bus) []node.State {
	t.Helper()
	var l []node.State
	for i := range b.Len() {
		l = append(l, state(t, b, i))
	}
	return l
}

// onTheWire is what a frame that may be is there.
func onTheWire(f api.Frame) api.Wire {
	var w api.Wire
	switch f.Kind {
	case api.Classic:
		w, _ = classic.Wire(f)
	case api.FD:
		w, _ = fd.Wire(f)
	case api.XL:
		w, _ = xl.Wire(f)
	}
	return w
}

// heard is a frame on a wire on which somebody answers.
func heard(f api.Frame) []byte {
	w := onTheWire(f)
	w.Bits[w.Ack] = 0
	return w.Bits
}

// shapes are frames of all kinds, no two of one key.
func shapes() []api.Frame {
	return []api.Frame{
		{Kind: api.Classic, ID: 0x555, Data: []byte{1}},
		{Kind: api.Classic},
		{Kind: api.Classic, RTR: true},
		{Kind: api.Classic, ID: 0x7ff, Data: slices.Repeat([]byte{255}, 8)},
		{Kind: api.Classic, ID: 0x0f0, Data: make([]byte, 8)},
		{Kind: api.Classic, Ext: true},
		{Kind: api.Classic, Ext: true, ID: 0x15555555, RTR: true},
		{Kind: api.Classic, Ext: true, ID: 0x1fffffff, Data: []byte{0xaa, 0x55}},
		{Kind: api.FD},
		{Kind: api.FD, ID: 0x555, BRS: true, Data: []byte{0, 0, 0, 0}},
		{Kind: api.FD, ID: 0x7ff, ESI: true, Data: slices.Repeat([]byte{255, 1, 254}, 16)},
		{Kind: api.XL, Data: []byte{0, 0, 0}},
		{Kind: api.XL, ID: 0x555, SDT: 3, Data: []byte{1}},
		{Kind: api.XL, ID: 0x7ff, SEC: true, SDT: 255, VCID: 255, AF: 0xffffffff, Data: slices.Repeat([]byte{255}, 40)},
	}
}

// wrong are frames that may not be.
func wrong() []api.Frame {
	return []api.Frame{
		{},
		{Kind: 4},
		{Kind: api.Classic, ID: 1 << 11},
		{Kind: api.Classic, Data: make([]byte, 9)},
		{Kind: api.FD, Data: make([]byte, 9)},
		{Kind: api.XL},
	}
}

// mixed is some frame of one of the given kinds, with an ID below a bound.
func mixed(r *rand.Rand, below int, kinds ...int) api.Frame {
	f := api.Frame{Kind: kinds[r.Intn(len(kinds))], ID: uint32(r.Intn(below))}
	size := r.Intn(9)
	switch f.Kind {
	case api.Classic:
		if r.Intn(3) == 0 {
			f.Ext = true
			f.ID = f.ID<<18 | uint32(r.Intn(4))<<uint(r.Intn(17))
		}
		if r.Intn(4) == 0 {
			f.RTR, size = true, 0
		}
	case api.FD:
		f.BRS, f.ESI = r.Intn(2) == 0, r.Intn(2) == 0
		size, _ = frame.Fit(api.FD, r.Intn(30))
	case api.XL:
		f.SEC, f.SDT, f.VCID, f.AF = r.Intn(2) == 0, uint8(r.Intn(256)), uint8(r.Intn(256)), r.Uint32()
		size = 1 + r.Intn(30)
	}
	f.Data = make([]byte, size)
	for i := range f.Data {
		f.Data[i] = byte(r.Intn(256)) | byte(r.Intn(2)*255)
	}
	return f
}
