package bus_test

import (
	"cmp"
	"math/rand"
	"slices"
	"testing"

	"omnibus/api"
	"omnibus/bus"
	"omnibus/fault"
	"omnibus/frame"
	"omnibus/node"
	"omnibus/order"
)

// P13.3

func key(t *testing.T, f api.Frame) uint64 {
	t.Helper()
	k, e := order.Key(f)
	if e != api.OK {
		t.Fatalf("%+v: %d", f, e)
	}
	return k
}

// carried is what came of a frame: who sent it, and who got it.
type carried struct {
	sender int
	f      api.Frame
	got    []int
}

func sameCarried(a, b carried) bool {
	return a.sender == b.sender && frame.Same(a.f, b.f) && slices.Equal(a.got, b.got)
}

// watch gathers what comes across. What is got comes a bit ahead of Sent.
type watch struct {
	t    *testing.T
	b    *bus.Bus
	got  []int
	f    api.Frame
	seen []carried
}

// step is one; nobody counts an error.
func (w *watch) step() {
	w.t.Helper()
	for i, is := range step(w.t, w.b, 0) {
		switch is.Kind {
		case node.Wrong:
			w.t.Fatalf("behind %d bits, node %d: %+v", len(w.b.Line()), i, is)
		case node.Got:
			if len(w.got) > 0 && !frame.Same(is.F, w.f) {
				w.t.Fatalf("node %d got %+v, another one %+v", i, is.F, w.f)
			}
			w.got, w.f = append(w.got, i), is.F
		case node.Sent:
			if !frame.Same(is.F, w.f) {
				w.t.Fatalf("node %d sent %+v; got was %+v", i, is.F, w.f)
			}
			w.seen = append(w.seen, carried{i, is.F, w.got})
			w.got = nil
		}
	}
	for i, s := range states(w.t, w.b) {
		if s.Fault != (fault.State{}) {
			w.t.Fatalf("node %d: %+v", i, s)
		}
	}
}

// idle says whether all are Idle without frames.
func (w *watch) idle() bool {
	return !slices.ContainsFunc(states(w.t, w.b), func(s node.State) bool { return s != node.State{Phase: node.Idle} })
}

// run goes on till all are Idle without frames.
func (w *watch) run(most int) {
	w.t.Helper()
	for range most {
		if w.idle() {
			return
		}
		w.step()
	}
	w.t.Fatalf("%+v behind %d steps", states(w.t, w.b), most)
}

// others are those who get a frame of a sender.
func others(knows []bool, sender int, f api.Frame) []int {
	var l []int
	for i, xl := range knows {
		if i != sender && (xl || f.Kind != api.XL) {
			l = append(l, i)
		}
	}
	return l
}

// comeAcross has new nodes send these frames, a node's at its place (none, if its kind is 0).
func comeAcross(t *testing.T, knows []bool, frames []api.Frame) {
	t.Helper()
	w := &watch{t: t, b: busOf(t, knows)}
	var want []carried
	most := 12
	for i, f := range frames {
		if f.Kind == 0 {
			continue
		}
		give(t, w.b, i, f)
		want = append(want, carried{i, f, others(knows, i, f)})
		most += len(onTheWire(f).Bits) + 3
	}
	slices.SortFunc(want, func(a, b carried) int { return cmp.Compare(key(t, a.f), key(t, b.f)) })
	w.run(most)
	if !slices.EqualFunc(w.seen, want, sameCarried) {
		t.Fatalf("knows %v: %+v, wanted %+v", knows, w.seen, want)
	}
	line := slices.Repeat([]byte{1}, 11)
	for _, x := range want {
		line = slices.Concat(line, heard(x.f), []byte{1, 1, 1})
	}
	if !slices.Equal(w.b.Line(), line) {
		t.Fatalf("knows %v, frames %+v: the line is %v, wanted %v", knows, frames, w.b.Line(), line)
	}
}

// Example 4: Sent by the one, Got by the other.
func TestTwoNodes(t *testing.T) {
	for _, f := range shapes() {
		comeAcross(t, xls(2), []api.Frame{f})
		comeAcross(t, xls(2), []api.Frame{{}, f})
		if f.Kind != api.XL {
			comeAcross(t, make([]bool, 2), []api.Frame{f})
			comeAcross(t, []bool{false, true}, []api.Frame{f})
			comeAcross(t, []bool{true, false}, []api.Frame{f})
		}
	}
}

func TestNoFrames(t *testing.T) {
	for n := 1; n <= 16; n++ {
		comeAcross(t, make([]bool, n), nil)
	}
}

// Example 2, and all else of one ID: no two of them have one key.
func TestEachPairOfOneID(t *testing.T) {
	for _, id := range []uint32{0, 0x555, 0x7df, 0x7ff} {
		l := []api.Frame{
			{Kind: api.Classic, ID: id, Data: []byte{255}},
			{Kind: api.FD, ID: id, BRS: true, ESI: true, Data: []byte{255, 255}},
			{Kind: api.XL, ID: id, SEC: true, SDT: 255, Data: []byte{255, 255, 255}},
			{Kind: api.Classic, ID: id, RTR: true},
			{Kind: api.Classic, Ext: true, ID: id << 18},
			{Kind: api.Classic, Ext: true, ID: id << 18, RTR: true},
			{Kind: api.Classic, Ext: true, ID: id<<18 | 1, Data: []byte{0}},
			{Kind: api.Classic, Ext: true, ID: id<<18 | 0x1ffff, RTR: true},
			{Kind: api.Classic, Ext: true, ID: id<<18 | 0x3ffff, Data: []byte{0}},
			{Kind: api.Classic, Ext: true, ID: id<<18 | 0x3ffff, RTR: true},
			{Kind: api.Classic, ID: id ^ 1, RTR: true},
			{Kind: api.FD, ID: id ^ 1},
			{Kind: api.XL, ID: id ^ 0x400, Data: []byte{0}},
		}
		for i := range l {
			for j := range l {
				if i != j {
					comeAcross(t, xls(2), []api.Frame{l[i], l[j]})
					comeAcross(t, []bool{true, true, false, true}, []api.Frame{l[i], l[j]})
				}
			}
		}
		comeAcross(t, xls(len(l)), l)
		slices.Reverse(l)
		comeAcross(t, xls(len(l)), l)
	}
}

// Frames whose rows have stuff bits at other places and as long as can be.
func TestAllShapesAtOnce(t *testing.T) {
	l := shapes()
	for range len(l) {
		comeAcross(t, xls(len(l)), l)
		comeAcross(t, xls(16), append([]api.Frame{{}, {}}, l...))
		l = append(l[1:], l[0])
	}
}

func TestTheLongestFrames(t *testing.T) {
	for _, b := range []byte{0, 255, 0x1f} {
		data := slices.Repeat([]byte{b}, api.MaxData)
		comeAcross(t, []bool{true, false, true}, []api.Frame{{Kind: api.XL, ID: 5, Data: data}, {Kind: api.FD, ID: 6, Data: data[:64]}, {Kind: api.XL, ID: 4, Data: data}})
	}
}

// known is a mixed frame that a node knows, of a key that isn't used yet. XL frames need another one that knows them.
func known(t *testing.T, r *rand.Rand, xl bool, used map[uint64]bool) api.Frame {
	kinds := []int{api.Classic, api.FD}
	if xl {
		kinds = append(kinds, api.XL)
	}
	for {
		f := mixed(r, 24, kinds...)
		if k := key(t, f); !used[k] {
			used[k] = true
			return f
		}
	}
}

// someWhoKnow are nodes of which at least two know XL frames, or none does.
func someWhoKnow(r *rand.Rand, n int) []bool {
	knows := make([]bool, n)
	if r.Intn(4) == 0 {
		return knows
	}
	for i := range knows {
		knows[i] = i < 2 || r.Intn(2) == 0
	}
	r.Shuffle(n, func(i, j int) { knows[i], knows[j] = knows[j], knows[i] })
	return knows
}

func TestMixedFramesAtOnce(t *testing.T) {
	r := rand.New(rand.NewSource(3))
	for n := 2; n <= 16; n++ {
		for range 6 {
			knows, used := someWhoKnow(r, n), map[uint64]bool{}
			frames := make([]api.Frame, n)
			for i := range frames {
				if r.Intn(5) > 0 {
					frames[i] = known(t, r, knows[i], used)
				}
			}
			comeAcross(t, knows, frames)
		}
	}
}

// waiting has the nodes load frames at mixed times, each another one behind the one that it has sent.
type waiting struct {
	watch
	knows  []bool
	frames []api.Frame
	begun  int
	next   carried
}

// begins tells what is sent next: all are Idle together, and the lowest key of all that wait begins.
func (w *waiting) begins() {
	w.t.Helper()
	all := states(w.t, w.b)
	some := slices.ContainsFunc(all, func(s node.State) bool { return s == node.State{Phase: node.Idle, Has: true} })
	if !some {
		return
	}
	lowest := -1
	for i, s := range all {
		if s.Phase != node.Idle {
			w.t.Fatalf("a beginning: %+v", all)
		}
		if s.Has && (lowest < 0 || key(w.t, w.frames[i]) < key(w.t, w.frames[lowest])) {
			lowest = i
		}
	}
	f := w.frames[lowest]
	w.begun++
	w.next = carried{lowest, f, others(w.knows, lowest, f)}
}

func (w *waiting) step() {
	w.t.Helper()
	w.begins()
	w.watch.step()
	if len(w.seen) > 0 && !sameCarried(w.seen[len(w.seen)-1], w.next) {
		w.t.Fatalf("%+v, wanted %+v", w.seen, w.next)
	}
	w.seen = nil
}

// P2: the lowest key of all that wait is sent first at each beginning, and all is sent.
func TestFramesLoadedAtAnyTime(t *testing.T) {
	r := rand.New(rand.NewSource(7))
	for _, often := range []int{2, 30, 200} {
		for n := 2; n <= 16; n += 2 {
			knows := someWhoKnow(r, n)
			w := &waiting{knows: knows, frames: make([]api.Frame, n)}
			w.t, w.b = t, busOf(t, knows)
			loaded, used := 0, map[uint64]bool{}
			for range 3500 {
				i := r.Intn(n)
				if s := state(t, w.b, i); !s.Has && r.Intn(often) == 0 && len(used) < 300 {
					f := known(t, r, knows[i], used)
					give(t, w.b, i, f)
					w.frames[i] = f
					loaded++
				}
				w.step()
			}
			for range n * 600 {
				w.step()
			}
			if !w.idle() || w.begun != loaded || loaded < 5 {
				t.Errorf("%d nodes: %d loaded, %d sent, %+v", n, loaded, w.begun, states(t, w.b))
			}
		}
	}
}

// alone has one node send what nobody hears: its counter rises to 128, and stays. What the others are at the end is told.
func alone(t *testing.T, knows []bool, sender int, f api.Frame) []node.State {
	t.Helper()
	b := busOf(t, knows)
	give(t, b, sender, f)
	tec, highest := 0, 0
	for range 40 * (len(onTheWire(f).Bits) + 40) {
		for i, is := range step(t, b, 0) {
			if is.Kind == node.None {
				continue
			}
			if i != sender || is.Kind != node.Wrong || is.Err != api.ErrNone {
				t.Fatalf("%v, node %d: %+v", knows, i, is)
			}
			highest++
		}
		now := state(t, b, sender).Fault
		if now.TEC != tec && now.TEC != tec+8 || now.REC != 0 {
			t.Fatalf("%v: %d, and then %+v", knows, tec, now)
		}
		tec = now.TEC
	}
	if s := state(t, b, sender); tec != 128 || highest < 20 || !s.Has {
		t.Errorf("%v, behind %d errors: %+v", knows, highest, s)
	}
	return slices.Delete(states(t, b), sender, sender+1)
}

// Example 5: one station alone is never heard.
func TestOneAlone(t *testing.T) {
	for _, f := range shapes() {
		if f.Kind != api.XL {
			alone(t, []bool{false}, 0, f)
		}
		alone(t, []bool{true}, 0, f)
	}
}

// Example 9: those that don't know XL frames get none, count nothing, and join anew.
func TestXLFramesNeedTwoThatKnow(t *testing.T) {
	for _, f := range shapes() {
		if f.Kind != api.XL {
			continue
		}
		for n := 2; n <= 6; n++ {
			for sender := range n {
				knows := make([]bool, n)
				knows[sender] = true
				for _, s := range alone(t, knows, sender, f) {
					if s.Fault != (fault.State{}) || s.Phase != node.Join && s.Phase != node.Idle && s.Phase != node.Receive {
						t.Errorf("%+v, %v: %+v", f, knows, s)
					}
				}
			}
		}
	}
	b := busOf(t, []bool{true, true, false})
	give(t, b, 0, api.Frame{Kind: api.XL, ID: 1, Data: []byte{1}})
	joined := false
	for range 250 {
		step(t, b, 0)
		joined = joined || len(b.Line()) > 12 && state(t, b, 2).Phase == node.Join
	}
	if s := state(t, b, 2); !joined || s != (node.State{Phase: node.Idle}) {
		t.Errorf("%v, %+v", joined, s)
	}
}
