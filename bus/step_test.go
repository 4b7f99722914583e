package bus_test

import (
	"math"
	"math/rand"
	"slices"
	"testing"

	"omnibus/api"
	"omnibus/bus"
	"omnibus/fault"
	"omnibus/frame"
	"omnibus/node"
)

// P13.2

func TestStepRefuses(t *testing.T) {
	for n := 1; n <= 16; n++ {
		b := busOf(t, xls(n))
		give(t, b, n-1, shapes()[0])
		for _, ahead := range []int{0, 5, 6, 1, 3, 40} {
			steps(t, b, ahead)
			before, line := states(t, b), b.Line()
			for _, turned := range []uint32{1 << n, 1<<n + 1, 1<<(n+1) - 1, 1 << (n + 1), 3 << n, 1 << 16, 1<<16 + 1, 1 << 31, math.MaxUint32, math.MaxUint32 << n} {
				if l, e := b.Step(turned); len(l) != 0 || e != api.ErrArg {
					t.Errorf("%d nodes: Step(%d): %+v, %d", n, turned, l, e)
				}
				if !slices.Equal(states(t, b), before) || !slices.Equal(b.Line(), line) {
					t.Fatalf("%d nodes: Step(%d): %+v, %v", n, turned, states(t, b), b.Line())
				}
			}
		}
		step(t, b, 1<<n-1)
	}
}

// At Join a 1 counts, and a 0 doesn't: so it shows whose samples were turned.
func TestTurnedIsABitANode(t *testing.T) {
	for n := 1; n <= 16; n++ {
		for _, turned := range []uint32{0, 1, 2, 3, 4, 5, 6, 0x5555, 0xaaaa, 0x8000, 0x7fff, 0x1234, 0xffff} {
			turned %= 1 << n
			b := busOf(t, make([]bool, n))
			steps(t, b, 4)
			l := step(t, b, turned)
			for i, s := range states(t, b) {
				want := node.State{Count: 5}
				if turned>>i&1 == 1 {
					want.Count = 0
				}
				if s != want || !sameEvents(l[i:i+1], make([]node.Event, 1)) {
					t.Errorf("%d nodes, turned %b, node %d: %+v, %+v", n, turned, i, s, l[i])
				}
			}
			if !slices.Equal(b.Line(), []byte{1, 1, 1, 1, 1}) {
				t.Errorf("%d nodes, turned %b: %v", n, turned, b.Line())
			}
		}
	}
}

// A 0 that one drives is there for all, but for those whose samples are turned.
func TestA0ThatOneDrives(t *testing.T) {
	for n := 1; n <= 16; n++ {
		for sender := range n {
			for _, turned := range []uint32{0, 1, 2, 0x5555, 0xaaaa, 0x8000, 0x7fff, 0xffff, 1 << sender} {
				turned %= 1 << n
				b := busOf(t, xls(n))
				give(t, b, sender, shapes()[0])
				steps(t, b, 11)
				l := step(t, b, turned)
				for i, s := range states(t, b) {
					is, want := node.Event{}, node.State{Phase: node.Receive, Count: 1}
					switch {
					case i == sender && turned>>i&1 == 1:
						is = node.Event{Kind: node.Wrong, Err: api.ErrForm}
						want = node.State{Phase: node.Flag, Fault: fault.State{TEC: 8}, Has: true}
					case i == sender:
						want = node.State{Phase: node.Send, Count: 1, Has: true}
					case turned>>i&1 == 1:
						want = node.State{Phase: node.Idle}
					}
					if s != want || !sameEvents(l[i:i+1], []node.Event{is}) {
						t.Errorf("%d nodes, %d sends, turned %b, node %d: %+v, %+v", n, sender, turned, i, s, l[i])
					}
				}
				if line := b.Line(); line[10] != 1 || line[11] != 0 {
					t.Errorf("%d nodes, %d sends, turned %b: %v", n, sender, turned, line)
				}
			}
		}
	}
}

// One node, to whom all is turned: it drives a 1, and hears 0s.
func TestOneNodeTurned(t *testing.T) {
	b := busOf(t, xls(1))
	for i := range 30 {
		step(t, b, 1)
		if s := state(t, b, 0); s != (node.State{}) || b.Line()[i] != 1 {
			t.Errorf("step %d: %+v", i, s)
		}
	}
	steps(t, b, 11)
	for range 5 {
		step(t, b, 1)
	}
	if l := step(t, b, 1); !sameEvents(l, []node.Event{{Kind: node.Wrong, Err: api.ErrStuff}}) {
		t.Errorf("%+v", l)
	}
	step(t, b, 1)
	if s, line := state(t, b, 0), b.Line(); s != (node.State{Phase: node.Flag, Count: 1, Fault: fault.State{REC: 1}}) || line[46] != 1 || line[47] != 0 {
		t.Errorf("%+v, %v", s, line)
	}
}

// What comes of a step is told by places, though several nodes tell something.
func TestEventsStandInOrder(t *testing.T) {
	l := []api.Frame{{Kind: api.Classic, ID: 3}, {Kind: api.Classic, ID: 1}, {Kind: api.Classic, ID: 2}, {Kind: api.XL, ID: 9, Data: []byte{1}}}
	b := busOf(t, []bool{true, false, true, true, false})
	for i, f := range l {
		give(t, b, i, f)
	}
	var all [][]node.Event
	for range 11 + len(onTheWire(l[1]).Bits) {
		events := step(t, b, 0)
		if slices.ContainsFunc(events, func(is node.Event) bool { return is.Kind != node.None }) {
			all = append(all, events)
		}
	}
	got, lost := node.Event{Kind: node.Got, F: l[1]}, node.Event{Kind: node.Lost}
	want := [][]node.Event{
		{3: lost, 4: {}},
		{0: lost, 2: lost, 4: {}},
		{0: got, 2: got, 3: got, 4: got},
		{1: {Kind: node.Sent, F: l[1]}, 4: {}},
	}
	if !slices.EqualFunc(all, want, sameEvents) {
		t.Errorf("%+v", all)
	}
}

// The wire is what is driven: turned samples are not there.
func TestTheLineIsNotTurned(t *testing.T) {
	f := shapes()[0]
	for at := range len(onTheWire(f).Bits) {
		for turned := range uint32(8) {
			b, twin := busOf(t, xls(3)), busOf(t, xls(3))
			for _, x := range []*bus.Bus{b, twin} {
				give(t, x, 1, f)
				steps(t, x, 11+at)
			}
			step(t, b, turned)
			step(t, twin, 0)
			if !slices.Equal(b.Line(), twin.Line()) {
				t.Errorf("bit %d, turned %d: %v, not turned %v", at, turned, b.Line(), twin.Line())
			}
		}
	}
}

func TestTheLineHasTheFrame(t *testing.T) {
	for _, f := range shapes() {
		b := busOf(t, xls(2))
		give(t, b, 0, f)
		want := slices.Concat(slices.Repeat([]byte{1}, 11), heard(f), slices.Repeat([]byte{1}, 9))
		for i := range want {
			if !slices.Equal(b.Line(), want[:i]) {
				t.Fatalf("%+v, behind %d steps: %v", f, i, b.Line())
			}
			step(t, b, 0)
		}
		if !slices.Equal(b.Line(), want) {
			t.Errorf("%+v: %v, wanted %v", f, b.Line(), want)
		}
	}
}

func TestTheLineKeepsTheLastBits(t *testing.T) {
	r := rand.New(rand.NewSource(1))
	x := pair(t, xls(2))
	asked := map[int]bool{0: true, 1: true, 2: true, 9999: true, 200000: true}
	for k := 1; k <= 3; k++ {
		for d := -2; d <= 2; d++ {
			asked[k*65536+d] = true
		}
	}
	asks := 0
	for i := range 200001 {
		if asked[i] || i > 65536 && i%7001 == 0 {
			asks++
			x.lineIs()
			if want := min(i, 65536); len(x.b.Line()) != want {
				t.Fatalf("behind %d steps: %d bits", i, len(x.b.Line()))
			}
		}
		if i%211 == 0 {
			f := mixed(r, 2048, api.Classic, api.FD, api.XL)
			x.load(r.Intn(2), f)
		}
		x.step(nil)
	}
	if asks < len(asked) {
		t.Error(asks)
	}
}

func TestTheLineIsTheAskers(t *testing.T) {
	for _, n := range []int{5, 100, 65536, 65536 + 77} {
		b := busOf(t, xls(2))
		for i := range n {
			if i%97 == 0 {
				b.Load(0, shapes()[0])
			}
			step(t, b, 0)
		}
		kept := b.Line()
		for range 3 {
			l := b.Line()
			if !slices.Equal(l, kept) {
				t.Fatalf("%d steps: a line that changes", n)
			}
			l = l[:cap(l)]
			for i := range l {
				l[i] = 7
			}
		}
		was := slices.Clone(kept)
		steps(t, b, 30)
		if !slices.Equal(kept, was) {
			t.Errorf("%d steps: a line that goes on", n)
		}
		if l := b.Line(); slices.Contains(l, 7) || !slices.Equal(l[len(l)-30-min(n, 60):len(l)-30], kept[len(kept)-min(n, 60):]) {
			t.Errorf("%d steps: a line that was written to", n)
		}
	}
}

func TestEventsAreTheAskers(t *testing.T) {
	b, twin := busOf(t, xls(4)), busOf(t, xls(4))
	f := shapes()[0]
	for i := range 400 {
		if i%150 == 0 {
			give(t, b, 2, f)
			give(t, twin, 2, f)
		}
		l, same := step(t, b, 0), step(t, twin, 0)
		if !sameEvents(l, same) || !slices.Equal(states(t, b), states(t, twin)) {
			t.Fatalf("step %d: %+v, %+v", i, l, same)
		}
		for j := range l {
			for k := range l[j].F.Data {
				l[j].F.Data[k] = 99
			}
			if j+1 < len(l) && l[j+1].F.Kind != 0 && !frame.Same(l[j+1].F, f) {
				t.Errorf("step %d: the frame of event %d is changed with that of %d", i, j+1, j)
			}
		}
		l = l[:cap(l)]
		for j := range l {
			l[j] = node.Event{Kind: 9, Err: 9}
		}
	}
}

// script has a bus and its model go through mixed calls: loads, drops, restarts, and steps of which some in so many are turned.
func script(t *testing.T, r *rand.Rand, n, length, calm int) map[int]int {
	t.Helper()
	knows := make([]bool, n)
	for i := range knows {
		knows[i] = r.Intn(3) > 0
	}
	x := pair(t, knows)
	met := map[int]int{} // by an event's kind; -1 of a restart, -2 of a drop
	for range length {
		switch i := r.Intn(n); r.Intn(60) {
		case 0, 1:
			x.load(i, mixed(r, 4, api.Classic, api.FD, api.XL))
		case 2:
			x.load(i, wrong()[r.Intn(len(wrong()))])
		case 3:
			if x.drop(i) {
				met[-2]++
			}
		case 4:
			if x.restart(i) {
				met[-1]++
			}
		}
		turned := map[int]bool{}
		if r.Intn(calm) == 0 {
			turned[r.Intn(n)] = true
			turned[r.Intn(n)] = r.Intn(2) == 0
		}
		for _, is := range x.step(turned) {
			met[is.Kind]++
		}
	}
	x.lineIs()
	return met
}

func TestMixedScripts(t *testing.T) {
	r := rand.New(rand.NewSource(13))
	met := map[int]int{}
	for n := 1; n <= 16; n++ {
		for _, calm := range []int{1, 2, 20, 300, 5000} {
			for k, v := range script(t, r, n, 4000, calm) {
				met[k] += v
			}
		}
	}
	for _, k := range []int{-2, -1, node.None, node.Sent, node.Got, node.Lost, node.Wrong} {
		if met[k] == 0 {
			t.Errorf("no event %d: %v", k, met)
		}
	}
}

// All turnings of the first steps of two and three nodes, one of which sends.
func TestAllShortTurnings(t *testing.T) {
	for n := 2; n <= 3; n++ {
		length := 10 / n
		for way := range 1 << (n * length) {
			x := pair(t, xls(n))
			x.load(0, shapes()[1])
			for range 9 {
				x.step(nil)
			}
			for k := range length {
				turned := map[int]bool{}
				for i := range n {
					turned[i] = way>>(k*n+i)&1 == 1
				}
				x.step(turned)
			}
			for range 8 {
				x.step(nil)
			}
			x.lineIs()
		}
	}
}

func TestAScriptComesOutTheSame(t *testing.T) {
	run := func() ([]byte, []node.State, []int) {
		b := busOf(t, []bool{true, true, false, true})
		var kinds []int
		for i := range 3000 {
			b.Load(i*7%4, shapes()[i%len(shapes())])
			for _, is := range step(t, b, uint32(i)*2654435761>>28*uint32(i%13/12)) {
				kinds = append(kinds, is.Kind)
			}
		}
		return b.Line(), states(t, b), kinds
	}
	line, all, kinds := run()
	for range 3 {
		l, a, k := run()
		if !slices.Equal(l, line) || !slices.Equal(a, all) || !slices.Equal(k, kinds) {
			t.Error("a script that comes out another way")
		}
	}
}
