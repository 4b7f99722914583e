package fifo_test

import (
	"math"
	"math/rand"
	"slices"
	"testing"

	"omnibus/api"
	"omnibus/fifo"
	"omnibus/frame"
)

// model tells the chapter's words a second time: what is there stands in a list, the first one ahead.
type model struct {
	room, over int
	there      []api.Frame
}

func (m *model) push(f api.Frame) (bool, api.Errno) {
	switch {
	case frame.Check(f) != api.OK:
		return false, api.ErrArg
	case len(m.there) == m.room:
		m.over++
		return false, api.OK
	}
	m.there = append(m.there, frame.Copy(f))
	return true, api.OK
}

func (m *model) pop() (api.Frame, api.Errno) {
	if len(m.there) == 0 {
		return api.Frame{}, api.ErrNone
	}
	f := m.there[0]
	m.there = m.there[1:]
	return f, api.OK
}

func (m *model) clear() []api.Frame {
	l := m.there
	m.there, m.over = nil, 0
	return l
}

func sameFrames(a, b []api.Frame) bool {
	return slices.EqualFunc(a, b, frame.Same)
}

// both are a fifo and its model, which must answer alike.
type both struct {
	t     *testing.T
	q     *fifo.Fifo
	m     *model
	calls int
}

func pair(t *testing.T, room int) *both {
	t.Helper()
	return &both{t: t, q: fifoOf(t, room), m: &model{room: room}}
}

// alike asks all that changes nothing.
func (x *both) alike() {
	x.t.Helper()
	x.calls++
	if n := x.q.Len(); n != len(x.m.there) {
		x.t.Fatalf("call %d, %d places: Len: %d, wanted %d", x.calls, x.m.room, n, len(x.m.there))
	}
	if n := x.q.Over(); n != x.m.over {
		x.t.Fatalf("call %d, %d places: Over: %d, wanted %d", x.calls, x.m.room, n, x.m.over)
	}
	if l := x.q.All(); !sameFrames(l, x.m.there) {
		x.t.Fatalf("call %d, %d places: All: %+v, wanted %+v", x.calls, x.m.room, l, x.m.there)
	}
}

func (x *both) push(f api.Frame) bool {
	x.t.Helper()
	is, e := x.q.Push(f)
	if want, d := x.m.push(f); is != want || e != d {
		x.t.Fatalf("call %d, %d places: Push(%+v): %t, %d, wanted %t, %d", x.calls, x.m.room, f, is, e, want, d)
	}
	x.alike()
	return is
}

func (x *both) pop() api.Frame {
	x.t.Helper()
	f, e := x.q.Pop()
	if want, d := x.m.pop(); !frame.Same(f, want) || e != d {
		x.t.Fatalf("call %d, %d places: Pop: %+v, %d, wanted %+v, %d", x.calls, x.m.room, f, e, want, d)
	}
	x.alike()
	return f
}

func (x *both) clear() []api.Frame {
	x.t.Helper()
	l := x.q.Clear()
	if want := x.m.clear(); !sameFrames(l, want) {
		x.t.Fatalf("call %d, %d places: Clear: %+v, wanted %+v", x.calls, x.m.room, l, want)
	}
	x.alike()
	return l
}

func fifoOf(t *testing.T, room int) *fifo.Fifo {
	t.Helper()
	q, e := fifo.New(room)
	if q == nil || e != api.OK {
		t.Fatalf("New(%d): %v, %d", room, q, e)
	}
	return q
}

// Here stand frames to try.

// classic is a frame that is known by its number.
func classic(no int) api.Frame {
	return api.Frame{Kind: api.Classic, Ext: true, ID: uint32(no)}
}

// frames are some of all kinds that may be, with each field and the least and the most Data.
func frames() []api.Frame {
	one := []byte{1}
	return []api.Frame{
		{Kind: api.Classic},
		{Kind: api.Classic, ID: 2047, Data: []byte{1, 2, 3, 4, 5, 6, 7, 8}},
		{Kind: api.Classic, ID: 1365, RTR: true},
		{Kind: api.Classic, ID: 1<<29 - 1, Ext: true, Data: one},
		{Kind: api.Classic, ID: 1 << 28, Ext: true, RTR: true},
		{Kind: api.FD},
		{Kind: api.FD, ID: 2047, BRS: true, Data: make([]byte, 64)},
		{Kind: api.FD, ID: 682, ESI: true, Data: one},
		{Kind: api.XL, Data: one},
		{Kind: api.XL, ID: 2047, SEC: true, SDT: 255, VCID: 255, AF: math.MaxUint32, Data: make([]byte, api.MaxData)},
		{Kind: api.XL, ID: 5, SDT: 3, VCID: 7, AF: 0x12345678, Data: []byte{9, 9}},
	}
}

// wrong are frames that may not be.
func wrong() []api.Frame {
	one := []byte{1}
	return []api.Frame{
		{},
		{ID: 5, Data: one},
		{Kind: 4, Data: one},
		{Kind: -1},
		{Kind: 1<<32 + 1},
		{Kind: math.MinInt},
		{Kind: math.MaxInt, Data: one},
		{Kind: api.Classic, ID: 1 << 11},
		{Kind: api.Classic, ID: math.MaxUint32},
		{Kind: api.Classic, Ext: true, ID: 1 << 29},
		{Kind: api.Classic, RTR: true, Data: one},
		{Kind: api.Classic, Data: make([]byte, 9)},
		{Kind: api.Classic, BRS: true},
		{Kind: api.Classic, SDT: 1},
		{Kind: api.FD, ID: 1 << 11},
		{Kind: api.FD, Ext: true},
		{Kind: api.FD, RTR: true},
		{Kind: api.FD, Data: make([]byte, 9)},
		{Kind: api.FD, Data: make([]byte, 65)},
		{Kind: api.FD, AF: 1},
		{Kind: api.XL},
		{Kind: api.XL, Data: []byte{}},
		{Kind: api.XL, Data: make([]byte, api.MaxData+1)},
		{Kind: api.XL, ID: 1 << 11, Data: one},
		{Kind: api.XL, BRS: true, Data: one},
	}
}

func pick[T any](r *rand.Rand, l []T) T {
	return l[r.Intn(len(l))]
}
