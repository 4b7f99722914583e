package node_test

import (
	"bytes"
	"math/rand"
	"slices"
	"testing"

	"omnibus/api"
	"omnibus/fault"
	"omnibus/frame"
	"omnibus/node"
	"omnibus/scan"
)

// plain is the frame that most tests send.
func plain() api.Frame {
	return api.Frame{Kind: api.Classic, ID: 0x555, Data: []byte{1}}
}

func take(t *testing.T, n *node.Node, b byte) node.Event {
	t.Helper()
	is, e := n.Sample(b)
	if e != api.OK {
		t.Fatalf("Sample(%d) at %+v: %d", b, n.State(), e)
	}
	return is
}

// feed has a node take bits, and tells what came of the last one.
func feed(t *testing.T, n *node.Node, l ...[]byte) node.Event {
	t.Helper()
	var is node.Event
	for _, b := range slices.Concat(l...) {
		is = take(t, n, b)
	}
	return is
}

func give(t *testing.T, n *node.Node, f api.Frame) {
	t.Helper()
	if e := n.Load(f); e != api.OK {
		t.Fatalf("Load(%+v) at %+v: %d", f, n.State(), e)
	}
}

func isAt(t *testing.T, n *node.Node, want node.State, out byte) {
	t.Helper()
	if n.State() != want || n.Out() != out {
		t.Errorf("%+v drives %d, wanted %+v, %d", n.State(), n.Out(), want, out)
	}
}

// way leads to a phase: a node that knows XL frames, with the plain frame or without one, takes the bits.
type way struct {
	load bool
	l    []byte
	want node.State
	out  byte
}

// The bits from Join to Idle, and from a flag's beginning to behind its pause.
var (
	idle   = many(1, 11)
	unflag = many(1, 6+8+3)
)

// Of ones alone a node with a frame is wrong at its first bit again and again: passive of the sixteenth, off of the thirty-second.
var (
	passiveOnes = many(1, 11+16*18)
	awayOnes    = many(1, 11+15*18+16*26+1)
)

func ways() []way {
	w := onTheWire(plain())
	heard := slices.Concat(idle, w.Bits[:len(w.Bits)-1])
	wrong := slices.Concat(idle, many(0, 6))
	got, bad := fault.State{}, fault.State{REC: 1}
	passive, off := fault.State{TEC: 128}, fault.State{TEC: 256, Off: true}
	return []way{
		{false, nil, node.State{Phase: node.Join}, 1},
		{true, nil, node.State{Phase: node.Join, Has: true}, 1},
		{true, many(1, 10), node.State{Phase: node.Join, Count: 10, Has: true}, 1},
		{false, idle, node.State{Phase: node.Idle}, 1},
		{true, idle, node.State{Phase: node.Idle, Has: true}, 0},
		{true, slices.Concat(idle, w.Bits[:1]), node.State{Phase: node.Send, Count: 1, Has: true}, 1},
		{true, slices.Concat(idle, w.Bits[:2]), node.State{Phase: node.Send, Count: 2, Has: true}, 0},
		{true, slices.Concat(idle, w.Bits[:w.Ack]), node.State{Phase: node.Send, Count: w.Ack, Has: true}, 1},
		{false, slices.Concat(idle, w.Bits[:1]), node.State{Phase: node.Receive, Count: 1}, 1},
		{false, slices.Concat(idle, w.Bits[:w.Ack-1]), node.State{Phase: node.Receive, Count: w.Ack - 1}, 1},
		{false, slices.Concat(idle, w.Bits[:w.Ack]), node.State{Phase: node.Receive, Count: w.Ack}, 0},
		{false, slices.Concat(idle, w.Bits[:w.Ack+1]), node.State{Phase: node.Receive, Count: w.Ack + 1}, 1},
		{false, heard, node.State{Phase: node.Last, Fault: got}, 1},
		{false, wrong, node.State{Phase: node.Flag, Fault: bad}, 0},
		{false, slices.Concat(wrong, many(1, 5)), node.State{Phase: node.Flag, Count: 5, Fault: bad}, 0},
		{true, passiveOnes[:len(passiveOnes)-17], node.State{Phase: node.Flag, Fault: passive, Has: true}, 1},
		{false, slices.Concat(heard, []byte{0}), node.State{Phase: node.Overload}, 0},
		{false, slices.Concat(heard, []byte{0, 1, 0}), node.State{Phase: node.Overload, Count: 2}, 0},
		{false, slices.Concat(wrong, many(0, 6)), node.State{Phase: node.Delim, Fault: bad}, 1},
		{false, slices.Concat(wrong, many(0, 6), many(1, 7)), node.State{Phase: node.Delim, Count: 7, Fault: bad}, 1},
		{false, slices.Concat(heard, []byte{1}), node.State{Phase: node.Pause}, 1},
		{false, slices.Concat(heard, []byte{1, 1, 1}), node.State{Phase: node.Pause, Count: 2}, 1},
		{true, passiveOnes, node.State{Phase: node.Suspend, Fault: passive, Has: true}, 1},
		{true, slices.Concat(passiveOnes, many(1, 7)), node.State{Phase: node.Suspend, Count: 7, Fault: passive, Has: true}, 1},
		{true, awayOnes, node.State{Phase: node.Away, Fault: off, Has: true}, 1},
	}
}

func (w way) node(t *testing.T) *node.Node {
	t.Helper()
	n := node.New(true)
	if w.load {
		give(t, n, plain())
	}
	feed(t, n, w.l)
	return n
}

// away is a node that is off.
func away(t *testing.T) *node.Node {
	t.Helper()
	return way{load: true, l: awayOnes}.node(t)
}

// P12.1

func TestNumbersOfPhasesAndEvents(t *testing.T) {
	if l := []int{node.Join, node.Idle, node.Send, node.Receive, node.Last, node.Flag, node.Overload, node.Delim, node.Pause, node.Suspend, node.Away, node.Recover}; !slices.Equal(l, []int{0, 1, 2, 3, 4, 5, 6, 7, 8, 9, 10, 11}) {
		t.Error(l)
	}
	if l := []int{node.None, node.Sent, node.Got, node.Lost, node.Wrong}; !slices.Equal(l, []int{0, 1, 2, 3, 4}) {
		t.Error(l)
	}
}

func TestNewJoins(t *testing.T) {
	isAt(t, node.New(false), node.State{}, 1)
	isAt(t, node.New(true), node.State{}, 1)
	if a, b := node.New(true), node.New(true); a == b {
		t.Error("one node twice")
	}
}

func TestWhatEachPhaseDrivesAndIs(t *testing.T) {
	for _, w := range ways() {
		isAt(t, w.node(t), w.want, w.out)
	}
	n := away(t)
	n.Restart()
	isAt(t, n, node.State{Phase: node.Recover, Fault: fault.State{TEC: 256, Off: true}, Has: true}, 1)
}

func TestOutAndStateChangeNothing(t *testing.T) {
	for _, w := range ways() {
		n := w.node(t)
		for range 20 {
			n.Out()
			n.State()
		}
		isAt(t, n, w.want, w.out)
	}
}

// misfits are frames that may not be.
func misfits() []api.Frame {
	return []api.Frame{
		{},
		{Kind: 4, Data: []byte{1}},
		{Kind: -1},
		{Kind: api.Classic, ID: 1 << 11},
		{Kind: api.Classic, ID: 1 << 29, Ext: true},
		{Kind: api.Classic, RTR: true, Data: []byte{1}},
		{Kind: api.Classic, Data: make([]byte, 9)},
		{Kind: api.Classic, BRS: true},
		{Kind: api.FD, ID: 1 << 11},
		{Kind: api.FD, Ext: true},
		{Kind: api.FD, Data: make([]byte, 9)},
		{Kind: api.XL},
		{Kind: api.XL, ID: 1 << 11, Data: []byte{1}},
		{Kind: api.XL, RTR: true, Data: []byte{1}},
		{Kind: api.XL, Data: make([]byte, api.MaxData+1)},
	}
}

func TestLoad(t *testing.T) {
	for _, f := range shapes() {
		for _, knows := range []bool{false, true} {
			n := node.New(knows)
			want, has := api.OK, true
			if f.Kind == api.XL && !knows {
				want, has = api.ErrAlien, false
			}
			if e := n.Load(f); e != want || n.State() != (node.State{Has: has}) {
				t.Errorf("%+v, %v: %d, %+v", f, knows, e, n.State())
			}
		}
	}
}

func TestLoadRefuses(t *testing.T) {
	for _, knows := range []bool{false, true} {
		empty, full := node.New(knows), node.New(knows)
		give(t, full, plain())
		for _, f := range misfits() {
			if e := empty.Load(f); e != api.ErrArg {
				t.Errorf("%+v: %d", f, e)
			}
			if e := full.Load(f); e != api.ErrArg {
				t.Errorf("%+v, with a frame: %d", f, e)
			}
		}
		for _, f := range shapes() {
			want := api.ErrFull
			if f.Kind == api.XL && !knows {
				want = api.ErrAlien
			}
			if e := full.Load(f); e != want {
				t.Errorf("%+v, with a frame: %d, wanted %d", f, e, want)
			}
		}
		isAt(t, empty, node.State{}, 1)
		isAt(t, full, node.State{Has: true}, 1)
		feed(t, full, idle)
		w := onTheWire(plain())
		if is := feed(t, full, w.Bits[:w.Ack], []byte{0}, w.Bits[w.Ack+1:]); is.Kind != node.Sent || !frame.Same(is.F, plain()) {
			t.Errorf("%+v", is)
		}
	}
}

func TestLoadAtEachPhase(t *testing.T) {
	for _, w := range ways() {
		n := w.node(t)
		want, state := api.OK, w.want
		if w.load {
			want = api.ErrFull
		}
		state.Has = true
		if e := n.Load(plain()); e != want || n.State() != state {
			t.Errorf("%+v: %d, %+v", w.want, e, n.State())
		}
	}
}

func TestALoadedFrameIsSentFromIdleAlone(t *testing.T) {
	for _, w := range ways() {
		if w.load {
			continue
		}
		n := w.node(t)
		give(t, n, plain())
		out := w.out
		if w.want.Phase == node.Idle {
			out = 0
		}
		if n.Out() != out {
			t.Errorf("%+v: %d, wanted %d", w.want, n.Out(), out)
		}
	}
}

func TestDrop(t *testing.T) {
	for _, w := range ways() {
		n := w.node(t)
		can := w.load && w.want.Phase != node.Send
		state, out := w.want, w.out
		if can {
			state.Has = false
		}
		if can && state.Phase == node.Idle {
			out = 1
		}
		if n.Drop() != can {
			t.Errorf("%+v: %v", w.want, !can)
		}
		isAt(t, n, state, out)
		if n.Drop() {
			t.Errorf("%+v: twice", w.want)
		}
		isAt(t, n, state, out)
	}
}

func TestAnotherFrameBehindADrop(t *testing.T) {
	n := node.New(true)
	give(t, n, plain())
	feed(t, n, idle)
	n.Drop()
	isAt(t, n, node.State{Phase: node.Idle}, 1)
	feed(t, n, many(1, 3))
	isAt(t, n, node.State{Phase: node.Idle}, 1)
	f := api.Frame{Kind: api.XL, ID: 3, Data: []byte{4, 5}}
	give(t, n, f)
	w := onTheWire(f)
	if is := feed(t, n, w.Bits[:w.Ack], []byte{0}, w.Bits[w.Ack+1:]); is.Kind != node.Sent || !frame.Same(is.F, f) {
		t.Errorf("%+v", is)
	}
}

func TestRestart(t *testing.T) {
	for _, w := range ways() {
		n := w.node(t)
		state, can := w.want, w.want.Phase == node.Away
		if can {
			state.Phase = node.Recover
		}
		if n.Restart() != can {
			t.Errorf("%+v: %v", w.want, !can)
		}
		isAt(t, n, state, w.out)
		feed(t, n, many(1, 1))
		now := n.State()
		if n.Restart() {
			t.Errorf("%+v: twice", w.want)
		}
		if n.State() != now {
			t.Errorf("%+v: %+v", now, n.State())
		}
	}
}

func TestNoNode(t *testing.T) {
	var n *node.Node
	for _, f := range append(misfits(), shapes()...) {
		if e := n.Load(f); e != api.ErrNil {
			t.Errorf("Load(%+v): %d", f, e)
		}
	}
	for b := range 256 {
		if is, e := n.Sample(byte(b)); !sameEvent(is, node.Event{}) || e != api.ErrNil {
			t.Errorf("Sample(%d): %+v, %d", b, is, e)
		}
	}
	if n.Drop() || n.Restart() || n.Out() != 1 || n.State() != (node.State{}) {
		t.Error(n.Drop(), n.Restart(), n.Out(), n.State())
	}
}

func TestWhatIsHandedInIsNeitherChangedNorKept(t *testing.T) {
	for _, f := range shapes() {
		room := append(slices.Clone(f.Data), 71, 72, 73)
		given := f
		given.Data = room[:len(f.Data)]
		n := node.New(true)
		give(t, n, given)
		for i := range room {
			room[i] = byte(99 + i)
		}
		before := slices.Clone(room)
		feed(t, n, idle)
		w := onTheWire(f)
		var is node.Event
		for i, b := range w.Bits {
			if n.Out() != b {
				t.Fatalf("%+v: bit %d", f, i)
			}
			if i == w.Ack {
				b = 0
			}
			is = take(t, n, b)
		}
		if is.Kind != node.Sent || !frame.Same(is.F, f) {
			t.Errorf("%+v: %+v", f, is)
		}
		all := is.F.Data[:cap(is.F.Data)]
		for i := range all {
			all[i] = 5
		}
		if !bytes.Equal(room, before) {
			t.Errorf("%+v: what was handed in is %v", f, room)
		}
	}
}

// P12.2

func TestWhatABitDoes(t *testing.T) {
	w := onTheWire(plain())
	heard := slices.Concat(idle, w.Bits[:len(w.Bits)-1])
	sent := slices.Concat(idle, w.Bits[:w.Ack], []byte{0}, w.Bits[w.Ack+1:])
	flag := slices.Concat(idle, many(0, 6))
	bad, eight, passive := fault.State{REC: 1}, fault.State{TEC: 8}, fault.State{TEC: 128}
	for _, x := range []struct {
		load bool
		l    []byte
		b    byte
		is   node.Event
		want node.State
	}{
		{false, nil, 1, node.Event{}, node.State{Phase: node.Join, Count: 1}},
		{false, many(1, 10), 1, node.Event{}, node.State{Phase: node.Idle}},
		{false, many(1, 10), 0, node.Event{}, node.State{Phase: node.Join}},
		{true, many(0, 3), 0, node.Event{}, node.State{Phase: node.Join, Has: true}},
		{true, slices.Concat(many(1, 10), many(0, 1), many(1, 9)), 1, node.Event{}, node.State{Phase: node.Join, Count: 10, Has: true}},

		{false, idle, 1, node.Event{}, node.State{Phase: node.Idle}},
		{false, slices.Concat(idle, many(1, 99)), 1, node.Event{}, node.State{Phase: node.Idle}},
		{false, idle, 0, node.Event{}, node.State{Phase: node.Receive, Count: 1}},
		{true, idle, 0, node.Event{}, node.State{Phase: node.Send, Count: 1, Has: true}},
		{true, idle, 1, node.Event{Kind: node.Wrong, Err: api.ErrForm}, node.State{Phase: node.Flag, Fault: eight, Has: true}},

		{true, slices.Concat(idle, w.Bits[:1]), 1, node.Event{}, node.State{Phase: node.Send, Count: 2, Has: true}},
		{true, slices.Concat(idle, w.Bits[:1]), 0, node.Event{Kind: node.Lost}, node.State{Phase: node.Receive, Count: 2, Has: true}},
		{true, slices.Concat(idle, w.Bits[:2]), 1, node.Event{Kind: node.Wrong, Err: api.ErrForm}, node.State{Phase: node.Flag, Fault: eight, Has: true}},
		{true, slices.Concat(idle, w.Bits[:w.Ack]), 0, node.Event{}, node.State{Phase: node.Send, Count: w.Ack + 1, Has: true}},
		{true, slices.Concat(idle, w.Bits[:w.Ack]), 1, node.Event{Kind: node.Wrong, Err: api.ErrNone}, node.State{Phase: node.Flag, Fault: eight, Has: true}},
		{true, sent[:len(sent)-1], 1, node.Event{Kind: node.Sent, F: plain()}, node.State{Phase: node.Pause}},
		{true, sent[:len(sent)-1], 0, node.Event{Kind: node.Wrong, Err: api.ErrForm}, node.State{Phase: node.Flag, Fault: eight, Has: true}},

		{false, slices.Concat(idle, many(0, 4)), 0, node.Event{}, node.State{Phase: node.Receive, Count: 5}},
		{false, slices.Concat(idle, many(0, 5)), 1, node.Event{}, node.State{Phase: node.Receive, Count: 6}},
		{false, slices.Concat(idle, many(0, 5)), 0, node.Event{Kind: node.Wrong, Err: api.ErrStuff}, node.State{Phase: node.Flag, Fault: bad}},
		{false, heard[:len(heard)-1], 1, node.Event{Kind: node.Got, F: plain()}, node.State{Phase: node.Last}},
		{false, heard[:len(heard)-1], 0, node.Event{Kind: node.Wrong, Err: api.ErrForm}, node.State{Phase: node.Flag, Fault: bad}},
		{false, heard, 1, node.Event{}, node.State{Phase: node.Pause}},
		{false, heard, 0, node.Event{}, node.State{Phase: node.Overload}},

		{false, flag, 0, node.Event{}, node.State{Phase: node.Flag, Count: 1, Fault: bad}},
		{false, flag, 1, node.Event{}, node.State{Phase: node.Flag, Count: 1, Fault: bad}},
		{false, slices.Concat(flag, []byte{0, 1, 0, 1, 0}), 0, node.Event{}, node.State{Phase: node.Delim, Fault: bad}},
		{false, slices.Concat(flag, []byte{1, 1, 0, 1, 0}), 1, node.Event{}, node.State{Phase: node.Delim, Fault: bad}},
		{false, slices.Concat(heard, []byte{0, 1, 1, 1, 1}), 1, node.Event{}, node.State{Phase: node.Overload, Count: 5}},
		{false, slices.Concat(heard, []byte{0, 1, 1, 1, 1, 1}), 0, node.Event{}, node.State{Phase: node.Delim}},
		{false, slices.Concat(heard, []byte{0, 0, 0, 0, 0, 0}), 1, node.Event{}, node.State{Phase: node.Delim}},

		{false, slices.Concat(flag, many(0, 6)), 1, node.Event{}, node.State{Phase: node.Delim, Count: 1, Fault: bad}},
		{false, slices.Concat(flag, many(0, 60)), 0, node.Event{}, node.State{Phase: node.Delim, Fault: bad}},
		{false, slices.Concat(flag, many(0, 6), many(1, 7)), 0, node.Event{}, node.State{Phase: node.Delim, Fault: bad}},
		{false, slices.Concat(flag, many(0, 6), many(1, 7)), 1, node.Event{}, node.State{Phase: node.Pause, Fault: bad}},

		{false, slices.Concat(heard, []byte{1}), 1, node.Event{}, node.State{Phase: node.Pause, Count: 1}},
		{false, slices.Concat(heard, []byte{1}), 0, node.Event{}, node.State{Phase: node.Overload}},
		{false, slices.Concat(heard, []byte{1, 1}), 0, node.Event{}, node.State{Phase: node.Overload}},
		{false, slices.Concat(heard, []byte{1, 1, 1}), 0, node.Event{}, node.State{Phase: node.Receive, Count: 1}},
		{false, slices.Concat(heard, []byte{1, 1, 1}), 1, node.Event{}, node.State{Phase: node.Idle}},
		{true, slices.Concat(sent, many(1, 2)), 1, node.Event{}, node.State{Phase: node.Idle}},
		{true, slices.Concat(sent, many(1, 2)), 0, node.Event{}, node.State{Phase: node.Receive, Count: 1}},
		{true, slices.Concat(idle, many(1, 17)), 1, node.Event{}, node.State{Phase: node.Idle, Fault: eight, Has: true}},
		{true, slices.Concat(idle, many(1, 17)), 0, node.Event{}, node.State{Phase: node.Receive, Count: 1, Fault: eight, Has: true}},
		{true, passiveOnes[:len(passiveOnes)-1], 1, node.Event{}, node.State{Phase: node.Suspend, Fault: passive, Has: true}},

		{true, passiveOnes, 1, node.Event{}, node.State{Phase: node.Suspend, Count: 1, Fault: passive, Has: true}},
		{true, passiveOnes, 0, node.Event{}, node.State{Phase: node.Receive, Count: 1, Fault: passive, Has: true}},
		{true, slices.Concat(passiveOnes, many(1, 7)), 0, node.Event{}, node.State{Phase: node.Receive, Count: 1, Fault: passive, Has: true}},
		{true, slices.Concat(passiveOnes, many(1, 7)), 1, node.Event{}, node.State{Phase: node.Idle, Fault: passive, Has: true}},
	} {
		n := way{load: x.load, l: x.l}.node(t)
		is, e := n.Sample(x.b)
		if e != api.OK || !sameEvent(is, x.is) || n.State() != x.want {
			t.Errorf("%v, behind %v a %d: %+v, %d, %+v, wanted %+v, %+v", x.load, x.l, x.b, is, e, n.State(), x.is, x.want)
		}
	}
}

func TestOnlyBitsAreTaken(t *testing.T) {
	for _, w := range ways() {
		n, twin := w.node(t), w.node(t)
		for b := 2; b < 256; b++ {
			if is, e := n.Sample(byte(b)); !sameEvent(is, node.Event{}) || e != api.ErrArg {
				t.Errorf("%+v: Sample(%d): %+v, %d", w.want, b, is, e)
			}
			isAt(t, n, w.want, w.out)
		}
		for i, b := range slices.Concat(onTheWire(plain()).Bits, many(0, 9), many(1, 60)) {
			if is, was := take(t, n, b), take(t, twin, b); !sameEvent(is, was) || n.State() != twin.State() {
				t.Fatalf("%+v: bit %d", w.want, i)
			}
		}
	}
}

// sends has a node of its own at Send of a frame's place.
func sends(t *testing.T, f api.Frame, place int) *node.Node {
	t.Helper()
	n := node.New(true)
	give(t, n, f)
	feed(t, n, idle)
	for _, b := range onTheWire(f).Bits[:place] {
		if n.State().Count == onTheWire(f).Ack {
			b = 0
		}
		take(t, n, b)
	}
	return n
}

func TestEachBitOfAFrameThatIsSent(t *testing.T) {
	for _, f := range shapes() {
		w := onTheWire(f)
		for i, b := range w.Bits {
			n := sends(t, f, i)
			want := node.State{Phase: node.Send, Count: i, Has: true}
			if i == 0 {
				want.Phase = node.Idle
			}
			isAt(t, n, want, b)
			is, row := take(t, n, 1-b), slices.Concat(w.Bits[:i], []byte{1 - b})
			switch {
			case i == w.Ack:
				isAt(t, n, node.State{Phase: node.Send, Count: i + 1, Has: true}, 1)
			case b == 1 && i < w.Arb:
				lostAs(t, n, row, is)
			default:
				isAt(t, n, node.State{Phase: node.Flag, Fault: fault.State{TEC: 8}, Has: true}, 0)
				if !sameEvent(is, node.Event{Kind: node.Wrong, Err: api.ErrForm}) {
					t.Errorf("%+v, bit %d: %+v", f, i, is)
				}
			}
		}
	}
}

// lostAs holds one that has lost against what the row is.
func lostAs(t *testing.T, n *node.Node, row []byte, is node.Event) {
	t.Helper()
	s, _ := scan.Scan(row, true)
	want, event := node.State{Phase: node.Receive, Count: len(row), Has: true}, node.Event{Kind: node.Lost}
	if s.Kind == scan.Bad {
		want = node.State{Phase: node.Flag, Fault: fault.State{REC: 1}, Has: true}
		event = node.Event{Kind: node.Wrong, Err: s.Err}
	}
	if !sameEvent(is, event) || n.State() != want {
		t.Errorf("%v: %+v, %+v, wanted %+v, %+v", row, is, n.State(), event, want)
	}
}

func TestAStuffBitThatIsLostIsWrong(t *testing.T) {
	for _, f := range []api.Frame{{Kind: api.Classic}, {Kind: api.FD, ID: 3}, {Kind: api.XL, Data: []byte{1}}} {
		n := sends(t, f, 5)
		if is := take(t, n, 0); !sameEvent(is, node.Event{Kind: node.Wrong, Err: api.ErrStuff}) {
			t.Errorf("%+v: %+v", f, is)
		}
		isAt(t, n, node.State{Phase: node.Flag, Fault: fault.State{REC: 1}, Has: true}, 0)
	}
}

func TestTheSlotAndTheEnd(t *testing.T) {
	for _, f := range shapes() {
		w := onTheWire(f)
		n := sends(t, f, w.Ack)
		if is := take(t, n, 1); !sameEvent(is, node.Event{Kind: node.Wrong, Err: api.ErrNone}) {
			t.Errorf("%+v: %+v", f, is)
		}
		isAt(t, n, node.State{Phase: node.Flag, Fault: fault.State{TEC: 8}, Has: true}, 0)
		n = sends(t, f, len(w.Bits)-1)
		if is := take(t, n, 1); !sameEvent(is, node.Event{Kind: node.Sent, F: f}) {
			t.Errorf("%+v: %+v", f, is)
		}
		isAt(t, n, node.State{Phase: node.Pause}, 1)
	}
}

// Who has lost gets the other's frame, and sends its own behind it.
func TestTheLoserReceives(t *testing.T) {
	mine := api.Frame{Kind: api.Classic, ID: 0x556, Data: []byte{7}}
	w, own := onTheWire(plain()), onTheWire(mine)
	n := sends(t, mine, 10)
	for i, b := range w.Bits[10 : len(w.Bits)-1] {
		at := 10 + i
		is := take(t, n, b)
		switch {
		case at == 11 && !sameEvent(is, node.Event{}), at == 10 && !sameEvent(is, node.Event{Kind: node.Lost}):
			t.Errorf("bit %d: %+v", at, is)
		case at == len(w.Bits)-2 && !sameEvent(is, node.Event{Kind: node.Got, F: plain()}):
			t.Errorf("bit %d: %+v", at, is)
		}
	}
	feed(t, n, many(1, 1+3))
	isAt(t, n, node.State{Phase: node.Idle, Has: true}, 0)
	if is := feed(t, n, own.Bits[:own.Ack], []byte{0}, own.Bits[own.Ack+1:]); !sameEvent(is, node.Event{Kind: node.Sent, F: mine}) {
		t.Errorf("%+v", is)
	}
}

func TestEachBitOfAFrameThatIsHeard(t *testing.T) {
	for _, f := range shapes() {
		w := onTheWire(f)
		for _, knows := range []bool{false, true} {
			for i := 1; i < len(w.Bits)-1; i++ {
				n := node.New(knows)
				feed(t, n, idle, w.Bits[:i])
				is := take(t, n, 1-w.Bits[i])
				s, _ := scan.Scan(slices.Concat(w.Bits[:i], []byte{1 - w.Bits[i]}), knows)
				before, _ := scan.Scan(w.Bits[:i], knows)
				want, event := node.State{Phase: node.Receive, Count: i + 1}, node.Event{}
				switch {
				case before.Kind == scan.Alien:
					want = n.State()
				case s.Kind == scan.Alien:
					want = node.State{Phase: node.Join}
				case s.Kind == scan.Bad:
					want = node.State{Phase: node.Flag, Fault: fault.State{REC: 1}}
					event = node.Event{Kind: node.Wrong, Err: s.Err}
				}
				if !sameEvent(is, event) || n.State() != want {
					t.Errorf("%+v, bit %d: %+v, %+v, wanted %+v, %+v", f, i, is, n.State(), event, want)
				}
			}
		}
	}
}

func TestItAnswersAtTheSlotAlone(t *testing.T) {
	for _, f := range shapes() {
		n := node.New(true)
		feed(t, n, idle)
		w := onTheWire(f)
		for i, b := range w.Bits {
			want := byte(1)
			if i == w.Ack {
				want = 0
			}
			if n.Out() != want {
				t.Errorf("%+v, bit %d: %d", f, i, n.Out())
			}
			take(t, n, b)
		}
	}
}

func TestWhoDoesNotKnowXLJoinsAnew(t *testing.T) {
	for _, f := range shapes() {
		if f.Kind != api.XL {
			continue
		}
		n := node.New(false)
		feed(t, n, idle)
		w, joined := onTheWire(f), false
		for i, b := range w.Bits {
			phase := n.State().Phase
			if is := take(t, n, b); !sameEvent(is, node.Event{}) || n.Out() != 1 {
				t.Errorf("%+v, bit %d: %+v, %d", f, i, is, n.Out())
			}
			if s, _ := scan.Scan(w.Bits[:i+1], false); s.Kind == scan.Alien && phase == node.Receive {
				joined = true
				isAt(t, n, node.State{Phase: node.Join}, 1)
			}
		}
		if !joined || n.State().Phase != node.Join || n.State().Fault != (fault.State{}) {
			t.Errorf("%+v: %v, %+v", f, joined, n.State())
		}
		feed(t, n, many(1, 3))
		isAt(t, n, node.State{Phase: node.Idle}, 1)
	}
}

// sendErrors has a node at Idle, with a frame, be wrong at its first bit so often.
func sendErrors(t *testing.T, n *node.Node, times int) {
	t.Helper()
	for range times {
		feed(t, n, many(1, 1), unflag)
		if n.State().Phase == node.Suspend {
			feed(t, n, many(1, 8))
		}
	}
}

// getErrors has a node at Idle, without a frame, hear six 0s so often.
func getErrors(t *testing.T, n *node.Node, times int) {
	t.Helper()
	for range times {
		feed(t, n, many(0, 6), unflag)
	}
}

func TestAPassiveOnesFlagIsQuiet(t *testing.T) {
	n := node.New(true)
	give(t, n, plain())
	feed(t, n, idle)
	sendErrors(t, n, 14)
	isAt(t, n, node.State{Phase: node.Idle, Fault: fault.State{TEC: 112}, Has: true}, 0)
	feed(t, n, many(1, 1))
	isAt(t, n, node.State{Phase: node.Flag, Fault: fault.State{TEC: 120}, Has: true}, 0)
	feed(t, n, unflag, many(1, 1))
	for i := range 6 {
		isAt(t, n, node.State{Phase: node.Flag, Count: i, Fault: fault.State{TEC: 128}, Has: true}, 1)
		feed(t, n, many(1, 1))
	}
	isAt(t, n, node.State{Phase: node.Delim, Fault: fault.State{TEC: 128}, Has: true}, 1)

	n = node.New(true)
	feed(t, n, idle)
	getErrors(t, n, 126)
	feed(t, n, many(0, 6))
	isAt(t, n, node.State{Phase: node.Flag, Fault: fault.State{REC: 127}}, 0)
	feed(t, n, unflag, many(0, 6))
	isAt(t, n, node.State{Phase: node.Flag, Fault: fault.State{REC: 128}}, 1)
	feed(t, n, many(0, 6))
	isAt(t, n, node.State{Phase: node.Delim, Fault: fault.State{REC: 128}}, 1)
}

// An overload's bits are 0s of a passive one, too.
func TestAPassiveOnesOverload(t *testing.T) {
	n := node.New(true)
	feed(t, n, idle)
	getErrors(t, n, 130)
	feed(t, n, many(0, 6), many(1, 6+8), many(0, 1))
	isAt(t, n, node.State{Phase: node.Overload, Fault: fault.State{REC: 131}}, 0)
}

// passiveSender is one that is passive, and at Idle with the plain frame.
func passiveSender(t *testing.T) *node.Node {
	t.Helper()
	n := node.New(true)
	give(t, n, plain())
	feed(t, n, idle)
	sendErrors(t, n, 17)
	isAt(t, n, node.State{Phase: node.Idle, Fault: fault.State{TEC: 136}, Has: true}, 0)
	return n
}

func sendsPlain(t *testing.T, n *node.Node) {
	t.Helper()
	w := onTheWire(plain())
	if is := feed(t, n, w.Bits[:w.Ack], []byte{0}, w.Bits[w.Ack+1:]); is.Kind != node.Sent {
		t.Fatalf("%+v, %+v", is, n.State())
	}
}

func TestWhoWaitsBehindAPause(t *testing.T) {
	w := onTheWire(plain())
	heard := slices.Concat(w.Bits[:len(w.Bits)-1], many(1, 1))
	after := fault.State{TEC: 135}

	n := passiveSender(t)
	sendsPlain(t, n)
	feed(t, n, many(1, 3))
	isAt(t, n, node.State{Phase: node.Suspend, Fault: after}, 1)

	// It was at Send since it was Idle last, though it has heard a frame behind that.
	n = passiveSender(t)
	sendsPlain(t, n)
	feed(t, n, many(1, 2), heard, many(1, 3))
	isAt(t, n, node.State{Phase: node.Suspend, Fault: after}, 1)
	feed(t, n, heard, many(1, 3))
	isAt(t, n, node.State{Phase: node.Suspend, Fault: after}, 1)

	// It was Idle behind that.
	feed(t, n, many(1, 8), heard, many(1, 3))
	isAt(t, n, node.State{Phase: node.Idle, Fault: after}, 1)

	// It has lost.
	n = passiveSender(t)
	feed(t, n, many(0, 6))
	isAt(t, n, node.State{Phase: node.Flag, Fault: fault.State{TEC: 136, REC: 1}, Has: true}, 1)
	feed(t, n, unflag)
	isAt(t, n, node.State{Phase: node.Idle, Fault: fault.State{TEC: 136, REC: 1}, Has: true}, 0)

	// It has heard alone.
	n = passiveSender(t)
	n.Drop()
	feed(t, n, heard, many(1, 3))
	isAt(t, n, node.State{Phase: node.Idle, Fault: fault.State{TEC: 136}}, 1)

	// It is not passive any more.
	n = passiveSender(t)
	for tec := 135; tec > 126; tec-- {
		sendsPlain(t, n)
		feed(t, n, many(1, 3))
		if tec > 127 {
			isAt(t, n, node.State{Phase: node.Suspend, Fault: fault.State{TEC: tec}}, 1)
			feed(t, n, many(1, 8))
		}
		isAt(t, n, node.State{Phase: node.Idle, Fault: fault.State{TEC: tec}}, 1)
		give(t, n, plain())
	}
}

func TestAnUnheardPassiveOneCountsNothing(t *testing.T) {
	w := onTheWire(plain())
	n := passiveSender(t)
	for range 3 {
		if is := feed(t, n, w.Bits[:w.Ack+1]); !sameEvent(is, node.Event{Kind: node.Wrong, Err: api.ErrNone}) {
			t.Errorf("%+v", is)
		}
		isAt(t, n, node.State{Phase: node.Flag, Fault: fault.State{TEC: 136}, Has: true}, 1)
		feed(t, n, unflag, many(1, 8))
		isAt(t, n, node.State{Phase: node.Idle, Fault: fault.State{TEC: 136}, Has: true}, 0)
	}
}

func TestAwayDoesNothing(t *testing.T) {
	n := away(t)
	want := node.State{Phase: node.Away, Fault: fault.State{TEC: 256, Off: true}, Has: true}
	for i := range 3000 {
		if is := take(t, n, byte(i/2000|i&1)); !sameEvent(is, node.Event{}) {
			t.Errorf("%+v", is)
		}
		isAt(t, n, want, 1)
	}
	if !n.Drop() || n.Load(plain()) != api.OK {
		t.Error("the frame of one that is away")
	}
	isAt(t, n, want, 1)
}

func TestRecover(t *testing.T) {
	off := fault.State{TEC: 256, Off: true}
	for ones := range 176 {
		n := away(t)
		n.Restart()
		feed(t, n, many(1, ones))
		isAt(t, n, node.State{Phase: node.Recover, Count: ones, Fault: off, Has: true}, 1)
		for range 2 {
			feed(t, n, many(0, 1))
			isAt(t, n, node.State{Phase: node.Recover, Count: ones / 11 * 11, Fault: off, Has: true}, 1)
		}
		feed(t, n, many(1, 175-ones/11*11))
		isAt(t, n, node.State{Phase: node.Recover, Count: 175, Fault: off, Has: true}, 1)
		if is := take(t, n, 1); !sameEvent(is, node.Event{}) {
			t.Errorf("%+v", is)
		}
		isAt(t, n, node.State{Phase: node.Idle, Has: true}, 0)
		sendsPlain(t, n)
		feed(t, n, many(1, 3))
		isAt(t, n, node.State{Phase: node.Idle}, 1)
	}
}

func TestTheThirtySecondErrorIsOff(t *testing.T) {
	n := node.New(false)
	give(t, n, plain())
	feed(t, n, idle)
	sendErrors(t, n, 31)
	isAt(t, n, node.State{Phase: node.Idle, Fault: fault.State{TEC: 248}, Has: true}, 0)
	if is := take(t, n, 1); !sameEvent(is, node.Event{Kind: node.Wrong, Err: api.ErrForm}) {
		t.Errorf("%+v", is)
	}
	isAt(t, n, node.State{Phase: node.Away, Fault: fault.State{TEC: 256, Off: true}, Has: true}, 1)
}

// player has a pair take what bits a bus may have: frames of others, its own, ones, zeros, anything, now and then turned.
type player struct {
	*both
	r    *rand.Rand
	turn int // one bit of so many is turned, if it isn't 0
}

func (p *player) bit(b byte) {
	if p.turn > 0 && p.r.Intn(p.turn) == 0 {
		b = 1 - b
	}
	p.take(b)
}

// own has it hear itself, and be heard or not.
func (p *player) own(heard bool) {
	for range p.r.Intn(400) {
		b := p.m.out()
		if heard && p.m.phase == node.Send && p.m.count == onTheWire(p.m.f).Ack {
			b = 0
		}
		p.bit(b)
	}
}

// other has it hear a frame, beside what it drives; one in four of them is cut, mostly ahead of its last bit.
func (p *player) other(f api.Frame) {
	l := onTheWire(f).Bits
	if p.r.Intn(4) == 0 {
		l = append(l[:max(len(l)-1-p.r.Intn(20)*p.r.Intn(2), 0)], 0)
	}
	for _, b := range l {
		p.bit(b & p.m.out())
	}
}

func (p *player) play() {
	l := shapes()
	switch f := l[p.r.Intn(len(l))]; p.r.Intn(9) {
	case 0, 1:
		p.load(f)
	case 2:
		p.drop()
		p.restart()
	case 3:
		p.takeAll(many(1, p.r.Intn(40)))
	case 4:
		p.takeAll(many(byte(p.r.Intn(2)), p.r.Intn(12)))
	case 5:
		p.own(true)
	case 6:
		p.own(p.r.Intn(2) == 0)
	case 7:
		p.other(f)
	case 8:
		for range p.r.Intn(9) {
			p.take(byte(p.r.Intn(2)))
		}
	}
}

// Every phase, each bit there, and what may come of it.
func allKinds() [][3]int {
	l := [][3]int{
		{node.Idle, 0, node.None}, {node.Idle, 1, node.None}, {node.Idle, 1, node.Wrong},
		{node.Send, 0, node.None}, {node.Send, 1, node.None}, {node.Send, 0, node.Lost}, {node.Send, 0, node.Wrong}, {node.Send, 1, node.Wrong}, {node.Send, 1, node.Sent},
		{node.Receive, 0, node.None}, {node.Receive, 1, node.None}, {node.Receive, 0, node.Wrong}, {node.Receive, 1, node.Wrong}, {node.Receive, 1, node.Got},
	}
	for _, phase := range []int{node.Join, node.Last, node.Flag, node.Overload, node.Delim, node.Pause, node.Suspend, node.Away, node.Recover} {
		l = append(l, [3]int{phase, 0, node.None}, [3]int{phase, 1, node.None})
	}
	return l
}

func TestMixedBits(t *testing.T) {
	for _, knows := range []bool{false, true} {
		met := map[[3]int]int{}
		for i, turn := range []int{0, 0, 1000, 100, 30, 10, 3} {
			p := &player{pair(t, knows), rand.New(rand.NewSource(int64(i))), turn}
			for range 300 {
				p.play()
			}
			for k, n := range p.met {
				met[k] += n
			}
		}
		for _, k := range allKinds() {
			if met[k] == 0 {
				t.Errorf("%v: never met %v", knows, k)
			}
			delete(met, k)
		}
		if len(met) > 0 {
			t.Errorf("%v: met %v", knows, met)
		}
	}
}

// All rows of so many bits, from each phase on, with a frame and without.
func TestAllShortRows(t *testing.T) {
	const size = 9
	for _, w := range ways() {
		for row := range 1 << size {
			x := pair(t, true)
			if w.load {
				x.load(plain())
			}
			for _, b := range w.l {
				x.n.Sample(b)
				x.m.sample(b)
			}
			for i := range size {
				x.take(byte(row >> i & 1))
			}
			for i := range size {
				x.restart()
				x.take(byte(row >> i & 1))
			}
		}
	}
}

// P12.3

// wire is what nodes have on it: a 0, if any drives that.
func wire(l ...*node.Node) byte {
	b := byte(1)
	for _, n := range l {
		b &= n.Out()
	}
	return b
}

func TestTwoNodesBringItAcross(t *testing.T) {
	for _, f := range append(shapes(), api.Frame{Kind: api.FD, ID: 77, Data: bytes.Repeat([]byte{0, 1}, 32)}, api.Frame{Kind: api.XL, ID: 78, Data: bytes.Repeat([]byte{0, 0xf0, 3, 0xff}, 512)}) {
		for _, behind := range []bool{false, true} {
			a, b, raw := node.New(true), node.New(true), onTheWire(f)
			if !behind {
				give(t, a, f)
			}
			feed(t, a, idle)
			feed(t, b, idle)
			if behind {
				give(t, a, f)
			}
			for i := range raw.Bits {
				bit := wire(a, b)
				wants := []node.Event{{}, {}}
				switch i {
				case len(raw.Bits) - 1:
					wants[0] = node.Event{Kind: node.Sent, F: f}
				case len(raw.Bits) - 2:
					wants[1] = node.Event{Kind: node.Got, F: f}
				}
				if want := raw.Bits[i]; bit != want && i != raw.Ack || i == raw.Ack && bit != 0 {
					t.Fatalf("%+v, bit %d: %d", f, i, bit)
				}
				for at, n := range []*node.Node{a, b} {
					if is := take(t, n, bit); !sameEvent(is, wants[at]) {
						t.Fatalf("%+v, bit %d, node %d: %+v", f, i, at, is)
					}
				}
			}
			isAt(t, a, node.State{Phase: node.Pause}, 1)
			isAt(t, b, node.State{Phase: node.Pause}, 1)
			feed(t, a, many(1, 3))
			feed(t, b, many(1, 3))
			isAt(t, a, node.State{Phase: node.Idle}, 1)
			isAt(t, b, node.State{Phase: node.Idle}, 1)
		}
	}
}

// A frame that came is the asker's own, and so is one that was sent.
func TestFramesThatComeAreNew(t *testing.T) {
	f := api.Frame{Kind: api.Classic, ID: 9, Data: []byte{1, 2, 3}}
	w := onTheWire(f)
	n := node.New(true)
	feed(t, n, idle)
	var l []node.Event
	for range 3 {
		l = append(l, feed(t, n, w.Bits[:len(w.Bits)-1]))
		feed(t, n, many(1, 1+3))
		give(t, n, f)
		l = append(l, feed(t, n, w.Bits[:w.Ack], []byte{0}, w.Bits[w.Ack+1:]))
		feed(t, n, many(1, 3))
	}
	for i := range l {
		if !frame.Same(l[i].F, f) {
			t.Errorf("%d: %+v", i, l[i])
		}
		all := l[i].F.Data[:cap(l[i].F.Data)]
		for k := range all {
			all[k] = 77
		}
	}
	if !slices.Equal(f.Data, []byte{1, 2, 3}) {
		t.Error(f.Data)
	}
}

func TestOneAloneIsNeverHeard(t *testing.T) {
	for _, f := range shapes() {
		n := node.New(true)
		give(t, n, f)
		tec := 0
		for range 20000 {
			is, before := take(t, n, n.Out()), tec
			tec = n.State().Fault.TEC
			if is.Kind != node.None && !sameEvent(is, node.Event{Kind: node.Wrong, Err: api.ErrNone}) {
				t.Fatalf("%+v: %+v", f, is)
			}
			if want := min(before+8, 128); is.Kind == node.Wrong && tec != want || is.Kind == node.None && tec != before {
				t.Fatalf("%+v: %d behind %d", f, tec, before)
			}
		}
		if s := n.State(); s.Fault != (fault.State{TEC: 128}) || !s.Has {
			t.Errorf("%+v: %+v", f, s)
		}
	}
}

// Behind one that was alone another one joins: the frame comes across.
func TestOneAloneIsHeardOnceAnotherJoins(t *testing.T) {
	for _, f := range shapes() {
		a := node.New(true)
		give(t, a, f)
		for range 20000 {
			take(t, a, a.Out())
		}
		b := node.New(true)
		var sent, got int
		for range 2000 {
			bit := wire(a, b)
			x, y := take(t, a, bit), take(t, b, bit)
			if x.Kind == node.Sent && frame.Same(x.F, f) {
				sent++
			}
			if y.Kind == node.Got && frame.Same(y.F, f) {
				got++
			}
		}
		if sent != 1 || got != 1 || a.State() != (node.State{Phase: node.Idle, Fault: fault.State{TEC: 127}}) || b.State() != (node.State{Phase: node.Idle}) {
			t.Errorf("%+v: %d, %d, %+v, %+v", f, sent, got, a.State(), b.State())
		}
	}
}

func TestNodesAreIndependent(t *testing.T) {
	a, b := node.New(true), node.New(true)
	give(t, a, plain())
	feed(t, a, idle, many(0, 1))
	isAt(t, b, node.State{}, 1)
	feed(t, b, many(1, 4))
	isAt(t, a, node.State{Phase: node.Send, Count: 1, Has: true}, 1)
	isAt(t, b, node.State{Count: 4}, 1)
}
