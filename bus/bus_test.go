package bus_test

import (
	"math"
	"slices"
	"testing"

	"omnibus/api"
	"omnibus/bus"
	"omnibus/fault"
	"omnibus/frame"
	"omnibus/node"
)

// P13.1

func TestNewOfSoManyNodes(t *testing.T) {
	for n := range 70 {
		b, e := bus.New(make([]bool, n))
		if n < 1 || n > 16 {
			if b != nil || e != api.ErrArg {
				t.Errorf("%d nodes: %v, %d", n, b, e)
			}
			continue
		}
		if b == nil || e != api.OK || b.Len() != n || len(b.Line()) != 0 {
			t.Fatalf("%d nodes: %d", n, e)
		}
		for i, s := range states(t, b) {
			if s != (node.State{}) {
				t.Errorf("%d nodes, node %d: %+v", n, i, s)
			}
		}
	}
	for _, l := range [][]bool{nil, {}, make([]bool, api.MaxNodes+1), make([]bool, 65536), make([]bool, 1<<20)} {
		if b, e := bus.New(l); b != nil || e != api.ErrArg {
			t.Errorf("%d nodes: %v, %d", len(l), b, e)
		}
	}
}

func TestEachNodeKnowsItsOwn(t *testing.T) {
	f := api.Frame{Kind: api.XL, Data: []byte{1}}
	for n := 1; n <= 16; n++ {
		for _, by := range []int{1, 3, 5, 7, 0x5a5a, 0x8001, 1 << (n - 1), 1<<n - 1, 0} {
			knows := make([]bool, n, n+3)
			for i := range knows {
				knows[i] = by>>i&1 == 1
			}
			given := slices.Clone(knows)
			b := busOf(t, knows)
			if !slices.Equal(knows, given) || slices.Contains(knows[:n+3][n:], true) {
				t.Errorf("what was handed in is %v", knows)
			}
			for i := range knows {
				knows[i] = !knows[i]
			}
			for i, xl := range given {
				want := api.ErrAlien
				if xl {
					want = api.OK
				}
				if e := b.Load(i, f); e != want {
					t.Errorf("%v, node %d: %d", given, i, e)
				}
				if s := state(t, b, i); s != (node.State{Has: xl}) {
					t.Errorf("%v, node %d: %+v", given, i, s)
				}
			}
		}
	}
}

func TestNodesAreOfTheirOwn(t *testing.T) {
	for i := range 16 {
		b := busOf(t, make([]bool, 16))
		give(t, b, i, shapes()[0])
		for j, s := range states(t, b) {
			if s.Has != (i == j) {
				t.Errorf("loaded %d: node %d is %+v", i, j, s)
			}
		}
		for j := range 16 {
			if is, e := b.Drop(j); is != (i == j) || e != api.OK {
				t.Errorf("loaded %d: Drop(%d): %v, %d", i, j, is, e)
			}
		}
		if s := state(t, b, i); s.Has {
			t.Errorf("dropped %d: %+v", i, s)
		}
	}
}

func TestPlacesThatAreNot(t *testing.T) {
	for _, n := range []int{1, 2, 15, 16} {
		b := busOf(t, xls(n))
		give(t, b, 0, shapes()[0])
		steps(t, b, 20)
		before := states(t, b)
		for _, i := range []int{-1, -2, n, n + 1, 16, 17, 32, 64, 256, 65536, 1 << 32, 1<<32 + 1, -1 << 32, math.MinInt, math.MaxInt} {
			if i < n && i >= 0 {
				continue
			}
			for _, f := range append(shapes(), wrong()...) {
				if e := b.Load(i, f); e != api.ErrNone {
					t.Errorf("%d nodes: Load(%d, %+v): %d", n, i, f, e)
				}
			}
			if is, e := b.Drop(i); is || e != api.ErrNone {
				t.Errorf("%d nodes: Drop(%d): %v, %d", n, i, is, e)
			}
			if is, e := b.Restart(i); is || e != api.ErrNone {
				t.Errorf("%d nodes: Restart(%d): %v, %d", n, i, is, e)
			}
			if s, e := b.State(i); s != (node.State{}) || e != api.ErrNone {
				t.Errorf("%d nodes: State(%d): %+v, %d", n, i, s, e)
			}
		}
		if !slices.Equal(states(t, b), before) || len(b.Line()) != 20 {
			t.Errorf("%d nodes: %+v, before %+v", n, states(t, b), before)
		}
	}
}

func TestLoadIsTheNodes(t *testing.T) {
	b := busOf(t, []bool{true, false})
	alien := api.Frame{Kind: api.XL, Data: []byte{1}}
	loads := func(i int, f api.Frame, want api.Errno) {
		t.Helper()
		before := states(t, b)
		if want == api.OK {
			before[i].Has = true
		}
		if e := b.Load(i, f); e != want || !slices.Equal(states(t, b), before) {
			t.Errorf("Load(%d, %+v): %d, %+v", i, f, e, states(t, b))
		}
	}
	for i := range 2 {
		for _, f := range wrong() {
			loads(i, f, api.ErrArg)
		}
	}
	loads(1, alien, api.ErrAlien)
	for i := range 2 {
		loads(i, shapes()[i], api.OK)
		loads(i, shapes()[2], api.ErrFull)
		loads(i, api.Frame{}, api.ErrArg)
	}
	loads(0, alien, api.ErrFull)
	loads(1, alien, api.ErrAlien)
}

func TestDropIsTheNodes(t *testing.T) {
	b := busOf(t, xls(2))
	drops := func(i int, want bool) {
		t.Helper()
		if is, e := b.Drop(i); is != want || e != api.OK {
			t.Errorf("Drop(%d): %v, %d", i, is, e)
		}
	}
	drops(0, false)
	give(t, b, 0, shapes()[0])
	give(t, b, 1, shapes()[1])
	drops(0, true)
	drops(0, false)
	give(t, b, 0, shapes()[0])
	steps(t, b, 12)
	drops(0, false)
	drops(1, false)
	steps(t, b, 5)
	if s := states(t, b); s[0].Phase != node.Receive || s[1].Phase != node.Send {
		t.Errorf("%+v", s)
	}
	drops(1, false)
	drops(0, true)
	drops(0, false)
}

// Example 6: thirty-two errors in sending: off; Restart, and sixteen times eleven 1s: new.
func TestRestartIsTheNodes(t *testing.T) {
	b := busOf(t, xls(2))
	restarts := func(i int, want bool) {
		t.Helper()
		if is, e := b.Restart(i); is != want || e != api.OK {
			t.Errorf("Restart(%d): %v, %d", i, is, e)
		}
	}
	give(t, b, 1, shapes()[0])
	errors := 0
	for range 2000 {
		if state(t, b, 1).Phase == node.Away {
			break
		}
		restarts(0, false)
		restarts(1, false)
		turned := uint32(0)
		if s := state(t, b, 1); s.Phase == node.Idle {
			turned = 1 << 1
			errors++
		}
		step(t, b, turned)
	}
	if s := state(t, b, 1); errors != 32 || s != (node.State{Phase: node.Away, Fault: fault.State{TEC: 256, Off: true}, Has: true}) {
		t.Errorf("behind %d errors: %+v", errors, s)
	}
	if is, e := b.Drop(1); !is || e != api.OK {
		t.Errorf("Drop: %v, %d", is, e)
	}
	restarts(0, false)
	steps(t, b, 100)
	restarts(1, true)
	restarts(1, false)
	steps(t, b, 175)
	if s := state(t, b, 1); s != (node.State{Phase: node.Recover, Count: 175, Fault: fault.State{TEC: 256, Off: true}}) {
		t.Errorf("%+v", s)
	}
	steps(t, b, 1)
	if s := state(t, b, 1); s != (node.State{Phase: node.Idle}) {
		t.Errorf("%+v", s)
	}
}

func TestNilBus(t *testing.T) {
	var b *bus.Bus
	for _, i := range []int{0, 1, -1, 16, math.MinInt, math.MaxInt} {
		for _, f := range append(shapes(), wrong()...) {
			if e := b.Load(i, f); e != api.ErrNil {
				t.Errorf("Load(%d, %+v): %d", i, f, e)
			}
		}
		if is, e := b.Drop(i); is || e != api.ErrNil {
			t.Errorf("Drop(%d): %v, %d", i, is, e)
		}
		if is, e := b.Restart(i); is || e != api.ErrNil {
			t.Errorf("Restart(%d): %v, %d", i, is, e)
		}
		if s, e := b.State(i); s != (node.State{}) || e != api.ErrNil {
			t.Errorf("State(%d): %+v, %d", i, s, e)
		}
	}
	for _, turned := range []uint32{0, 1, 2, 65535, 65536, math.MaxUint32} {
		if l, e := b.Step(turned); len(l) != 0 || e != api.ErrNil {
			t.Errorf("Step(%d): %v, %d", turned, l, e)
		}
	}
	if len(b.Line()) != 0 || b.Len() != 0 {
		t.Error(b.Line(), b.Len())
	}
}

// One that New didn't make has no nodes; its calls end all the same.
func TestBusWithoutNodes(t *testing.T) {
	var b bus.Bus
	if b.Len() != 0 || len(b.Line()) != 0 || b.Load(0, shapes()[0]) != api.ErrNone {
		t.Error(b.Len(), b.Line())
	}
	if s, e := b.State(0); s != (node.State{}) || e != api.ErrNone {
		t.Error(s, e)
	}
	if l, e := b.Step(1); len(l) != 0 || e != api.ErrArg {
		t.Error(l, e)
	}
	if l, e := b.Step(0); len(l) != 0 || e != api.OK || !slices.Equal(b.Line(), []byte{1}) {
		t.Error(l, e, b.Line())
	}
}

func TestBusesAreIndependent(t *testing.T) {
	a, b := busOf(t, xls(2)), busOf(t, xls(2))
	give(t, a, 0, shapes()[0])
	steps(t, a, 15)
	if len(b.Line()) != 0 || !slices.Equal(states(t, b), make([]node.State, 2)) {
		t.Errorf("%v, %+v", b.Line(), states(t, b))
	}
	steps(t, b, 3)
	if len(a.Line()) != 15 || len(b.Line()) != 3 {
		t.Error(a.Line(), b.Line())
	}
}

func TestALoadedFrameIsNeitherChangedNorKept(t *testing.T) {
	for _, f := range shapes() {
		b := busOf(t, xls(3))
		room := append(slices.Clone(f.Data), 71, 72, 73)
		given := f
		given.Data = room[:len(f.Data)]
		give(t, b, 0, given)
		for i := range room {
			room[i] = byte(99 + i)
		}
		before := slices.Clone(room)
		var frames []api.Frame
		for range 11 + len(onTheWire(f).Bits) {
			for _, is := range step(t, b, 0) {
				if is.Kind != node.None {
					frames = append(frames, is.F)
				}
			}
		}
		if len(frames) != 3 {
			t.Fatalf("%+v: %+v", f, frames)
		}
		for i, g := range frames {
			if !frame.Same(g, f) {
				t.Errorf("%+v: %+v", f, g)
			}
			all := g.Data[:cap(g.Data)]
			for j := range all {
				all[j] = byte(5 + i)
			}
		}
		if !slices.Equal(room, before) {
			t.Errorf("%+v: what was handed in is %v", f, room)
		}
	}
}
