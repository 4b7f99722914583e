package fifo_test

import (
	"math"
	"math/rand"
	"slices"
	"testing"

	"omnibus/api"
	"omnibus/fifo"
	"omnibus/frame"
)

// P16.1

func TestNew(t *testing.T) {
	for room := range api.MaxFifo + 1 {
		q := fifoOf(t, room)
		if q.Len() != 0 || q.Over() != 0 || len(q.All()) != 0 {
			t.Errorf("of %d places: %d, %d, %+v", room, q.Len(), q.Over(), q.All())
		}
		if f, e := q.Pop(); !frame.Same(f, api.Frame{}) || e != api.ErrNone {
			t.Errorf("of %d places: Pop: %+v, %d", room, f, e)
		}
		if l := q.Clear(); len(l) != 0 {
			t.Errorf("of %d places: Clear: %+v", room, l)
		}
	}
}

func TestNewRefuses(t *testing.T) {
	for _, room := range []int{-1, -2, -64, math.MinInt32, math.MinInt, math.MinInt + 1, api.MaxFifo + 1, api.MaxFifo + 2, 128, 256, 1 << 32, 1<<32 + 1, math.MaxInt32, math.MaxInt} {
		if q, e := fifo.New(room); q != nil || e != api.ErrArg {
			t.Errorf("New(%d): %v, %d", room, q, e)
		}
	}
}

// The chapter's example.
func TestExample(t *testing.T) {
	q := fifoOf(t, 2)
	for i, want := range []bool{true, true, false} {
		if is, e := q.Push(classic(i)); is != want || e != api.OK {
			t.Errorf("Push %d: %t, %d", i, is, e)
		}
	}
	if q.Over() != 1 {
		t.Error("Over:", q.Over())
	}
}

// Each number of places is room for just so many, and again when some have left.
func TestRoom(t *testing.T) {
	for room := range api.MaxFifo + 1 {
		x := pair(t, room)
		for i := range room + 3 {
			if is := x.push(classic(i)); is != (i < room) {
				t.Errorf("of %d places, Push %d: %t", room, i, is)
			}
		}
		for left := range room + 1 {
			for range left {
				x.pop()
			}
			for i := range left + 1 {
				x.push(classic(100*left + i))
			}
			if x.q.Len() != room {
				t.Errorf("of %d places, when %d have left: %d", room, left, x.q.Len())
			}
		}
		for range room + 2 {
			x.pop()
		}
	}
}

// What is pushed comes out as it was, whatever its fields are.
func TestPushOfAllKinds(t *testing.T) {
	for _, f := range frames() {
		x := pair(t, 1)
		if !x.push(f) || !sameFrames(x.q.All(), []api.Frame{f}) || !frame.Same(x.pop(), f) {
			t.Errorf("%+v", f)
		}
	}
	x := pair(t, api.MaxFifo)
	for _, f := range frames() {
		x.push(f)
		x.push(f)
	}
	for _, f := range frames() {
		if !frame.Same(x.pop(), f) || !frame.Same(x.pop(), f) {
			t.Errorf("among others: %+v", f)
		}
	}
}

// A frame that may not be is refused, be there a place or not; it isn't counted, and takes no place.
func TestPushRefuses(t *testing.T) {
	for i, f := range wrong() {
		for room := range 4 {
			x := pair(t, room)
			for n := range room + 3 {
				if is, e := x.q.Push(f); is || e != api.ErrArg {
					t.Errorf("frame %d, of %d places, %d ahead: %t, %d", i, room, n, is, e)
				}
				x.alike()
				x.push(classic(n))
			}
		}
	}
}

// The first one comes out first, and isn't there any more.
func TestPop(t *testing.T) {
	q := fifoOf(t, 3)
	for _, no := range []int{7, 2, 4} {
		if is, e := q.Push(classic(no)); !is || e != api.OK {
			t.Fatal(no, is, e)
		}
	}
	for i, want := range []int{7, 2, 4} {
		if f, e := q.Pop(); !frame.Same(f, classic(want)) || e != api.OK || q.Len() != 2-i {
			t.Errorf("Pop: %+v, %d, left %d", f, e, q.Len())
		}
	}
	for range 3 {
		if f, e := q.Pop(); !frame.Same(f, api.Frame{}) || e != api.ErrNone || q.Len() != 0 || q.Over() != 0 {
			t.Errorf("Pop behind all: %+v, %d, left %d, over %d", f, e, q.Len(), q.Over())
		}
	}
}

// P16.2

// Asking changes nothing, and what found no place is counted on when places are free again.
func TestAllLenOver(t *testing.T) {
	x := pair(t, 2)
	for i := range 5 {
		x.push(classic(i))
		x.alike()
	}
	if !sameFrames(x.q.All(), []api.Frame{classic(0), classic(1)}) || x.q.Len() != 2 || x.q.Over() != 3 {
		t.Errorf("%+v, %d, %d", x.q.All(), x.q.Len(), x.q.Over())
	}
	x.pop()
	x.push(classic(5))
	x.push(classic(6))
	if !sameFrames(x.q.All(), []api.Frame{classic(1), classic(5)}) || x.q.Len() != 2 || x.q.Over() != 4 {
		t.Errorf("%+v, %d, %d", x.q.All(), x.q.Len(), x.q.Over())
	}
	for range 3 {
		x.pop()
	}
	if x.q.Over() != 4 {
		t.Error("Over of an empty one:", x.q.Over())
	}
}

// Over goes on as far as it is pushed.
func TestOverLong(t *testing.T) {
	for _, room := range []int{0, 1, api.MaxFifo} {
		q := fifoOf(t, room)
		for i := range 100000 {
			if is, e := q.Push(classic(i)); is != (i < room) || e != api.OK {
				t.Fatalf("of %d places, Push %d: %t, %d", room, i, is, e)
			}
		}
		if q.Over() != 100000-room || q.Len() != room {
			t.Errorf("of %d places: %d over, %d there", room, q.Over(), q.Len())
		}
	}
}

// From each beginning in the places, with each number of frames there, Clear tells all, and leaves an empty one of as many places.
func TestClear(t *testing.T) {
	for _, room := range []int{0, 1, 2, 5, 63, 64} {
		for turned := range 2 * room {
			for n := range room + 3 {
				x := pair(t, room)
				for i := range turned {
					x.q.Push(classic(i))
					x.q.Pop()
				}
				for i := range n {
					x.q.Push(classic(1000 + i))
					x.m.push(classic(1000 + i))
				}
				if l := x.clear(); len(l) != min(n, room) || x.q.Len() != 0 || x.q.Over() != 0 {
					t.Fatalf("of %d places, turned %d, %d in: %d, left %d, over %d", room, turned, n, len(l), x.q.Len(), x.q.Over())
				}
				x.clear()
				x.pop()
				for i := range min(room, 3) + 1 {
					x.push(classic(2000 + i))
				}
				x.pop()
				x.pop()
			}
		}
	}
}

// What is cleared is cleared for good: the places are all free, and hold none of what was there.
func TestBehindClear(t *testing.T) {
	for room := range api.MaxFifo + 1 {
		x := pair(t, room)
		for round := range 4 {
			for i := range room + round {
				x.push(classic(100*round + i))
			}
			for range round {
				x.pop()
			}
			x.clear()
		}
		x.pop()
		for i := range room + 1 {
			if is := x.push(classic(900 + i)); is != (i < room) {
				t.Errorf("of %d places, Push %d behind Clear: %t", room, i, is)
			}
		}
		if x.q.Over() != 1 {
			t.Errorf("of %d places: over %d behind Clear", room, x.q.Over())
		}
	}
}

// P16.3

// What comes out is a beginning of what went in, whatever went in behind it was lost or not.
func TestOutIsABeginning(t *testing.T) {
	for room := range api.MaxFifo + 1 {
		for n := range room + 10 {
			q := fifoOf(t, room)
			for i := range n {
				q.Push(classic(i))
			}
			for i := range min(n, room) {
				if f, e := q.Pop(); !frame.Same(f, classic(i)) || e != api.OK {
					t.Fatalf("of %d places, %d in, Pop %d: %+v, %d", room, n, i, f, e)
				}
			}
			if f, e := q.Pop(); !frame.Same(f, api.Frame{}) || e != api.ErrNone || q.Over() != n-min(n, room) {
				t.Fatalf("of %d places, %d in: behind all %+v, %d, over %d", room, n, f, e, q.Over())
			}
		}
	}
}

// While no more are there than places, none is lost, however often the places go round.
func TestRoundAndRound(t *testing.T) {
	for room := 1; room <= api.MaxFifo; room++ {
		q := fifoOf(t, room)
		in, out := 0, 0
		for round := range 5 * room {
			for in-out < room {
				if is, e := q.Push(classic(in)); !is || e != api.OK {
					t.Fatalf("of %d places, Push %d: %t, %d", room, in, is, e)
				}
				in++
			}
			for range 1 + round%room {
				if f, e := q.Pop(); !frame.Same(f, classic(out)) || e != api.OK {
					t.Fatalf("of %d places, Pop %d: %+v, %d", room, out, f, e)
				}
				out++
			}
			if q.Len() != in-out || q.Over() != 0 {
				t.Fatalf("of %d places: %d, over %d", room, q.Len(), q.Over())
			}
		}
	}
}

// A Push that finds no place leaves those that are there as they are.
func TestTheNewestAreLost(t *testing.T) {
	for _, room := range []int{1, 2, 3, 63, 64} {
		for turned := range room + 1 {
			x := pair(t, room)
			for i := range room {
				x.push(classic(i))
			}
			for i := range turned {
				x.pop()
				x.push(classic(room + i))
			}
			want := x.q.All()
			for i, f := range frames() {
				if x.push(f) || !sameFrames(x.q.All(), want) || x.q.Over() != i+1 {
					t.Fatalf("of %d places, turned %d: %+v, over %d", room, turned, x.q.All(), x.q.Over())
				}
			}
			for i := range room {
				if f := x.pop(); !frame.Same(f, classic(turned+i)) {
					t.Fatalf("of %d places, turned %d, Pop %d: %+v", room, turned, i, f)
				}
			}
		}
	}
}

// All ways in which calls can follow one another, of few places.
func TestAllShortScripts(t *testing.T) {
	for room := range 4 {
		for script := range 1 << 14 {
			x := pair(t, room)
			for i := range 7 {
				switch script >> (2 * i) % 4 {
				case 0:
					x.push(classic(i))
				case 1:
					x.pop()
				case 2:
					x.clear()
				default:
					x.push(api.Frame{})
				}
			}
		}
	}
}

func TestMixedScripts(t *testing.T) {
	for seed := range int64(130) {
		r := rand.New(rand.NewSource(seed))
		x := pair(t, int(seed)%(api.MaxFifo+1))
		in := 2 + r.Intn(5)
		for range 400 {
			switch n := r.Intn(100); {
			case n == 0:
				x.clear()
			case n < 5:
				x.push(pick(r, wrong()))
			case n%8 < in:
				x.push(pick(r, frames()))
			default:
				x.pop()
			}
		}
		for range x.m.there {
			x.pop()
		}
		x.pop()
	}
}

// A nil Fifo

func TestNil(t *testing.T) {
	var q *fifo.Fifo
	for _, f := range append(wrong(), frames()...) {
		if is, e := q.Push(f); is || e != api.ErrNil {
			t.Errorf("Push: %t, %d", is, e)
		}
	}
	if f, e := q.Pop(); !frame.Same(f, api.Frame{}) || e != api.ErrNil {
		t.Errorf("Pop: %+v, %d", f, e)
	}
	if q.Len() != 0 || q.Over() != 0 || len(q.All()) != 0 || len(q.Clear()) != 0 {
		t.Error(q.Len(), q.Over(), q.All(), q.Clear())
	}
}

// A Fifo that New didn't make has no places.
func TestOfNew(t *testing.T) {
	q := &fifo.Fifo{}
	for i, f := range frames() {
		if is, e := q.Push(f); is || e != api.OK || q.Over() != i+1 {
			t.Errorf("Push: %t, %d, over %d", is, e, q.Over())
		}
	}
	if is, e := q.Push(api.Frame{}); is || e != api.ErrArg {
		t.Errorf("Push of no frame: %t, %d", is, e)
	}
	if f, e := q.Pop(); !frame.Same(f, api.Frame{}) || e != api.ErrNone {
		t.Errorf("Pop: %+v, %d", f, e)
	}
	if len(q.All()) != 0 || len(q.Clear()) != 0 || q.Len() != 0 || q.Over() != 0 {
		t.Error(q.All(), q.Len(), q.Over())
	}
}

// DOC.md's rules of lists, and of what answers hang on

func TestNilAndEmptyAreOne(t *testing.T) {
	for _, f := range []api.Frame{classic(5), {Kind: api.Classic, RTR: true}, {Kind: api.FD}} {
		x := pair(t, 2)
		g := f
		g.Data = []byte{}
		x.push(g)
		x.push(f)
		if !frame.Same(x.pop(), f) || !frame.Same(x.pop(), g) {
			t.Errorf("%+v", f)
		}
	}
	x := pair(t, 1)
	if x.push(api.Frame{Kind: api.XL, Data: []byte{}}) || x.push(api.Frame{Kind: api.XL}) || x.q.Over() != 0 {
		t.Error("an XL frame without Data:", x.q.All())
	}
}

// spoil writes into all of a list's memory.
func spoil(l []byte) {
	l = l[:cap(l)]
	for i := range l {
		l[i] ^= 255
	}
}

// What is handed in is neither changed nor kept: it may change, and so may its spare room.
func TestPushKeepsNothing(t *testing.T) {
	room := []byte{1, 2, 3, 4, 5, 6, 7, 8}
	q := fifoOf(t, 8)
	for n := range 9 {
		q.Push(api.Frame{Kind: api.Classic, ID: uint32(n), Data: room[:n%8]})
	}
	q.All()
	if !slices.Equal(room, []byte{1, 2, 3, 4, 5, 6, 7, 8}) {
		t.Fatal("bytes are written into:", room)
	}
	spoil(room)
	for n := range 8 {
		if f, e := q.Pop(); e != api.OK || !slices.Equal(f.Data, []byte{1, 2, 3, 4, 5, 6, 7, 8}[:n]) {
			t.Errorf("%d: %+v, %d", n, f, e)
		}
	}
}

// Answers share no memory with what is there, nor with one another.
func TestAnswersAreNew(t *testing.T) {
	x := pair(t, 6)
	for i := range 6 {
		x.push(api.Frame{Kind: api.FD, ID: uint32(i), Data: []byte{byte(i), 2, 3}})
	}
	for range 3 {
		kept := x.q.All()
		l := x.q.All()
		l = l[:cap(l)]
		for i := range l {
			spoil(l[i].Data)
			l[i] = api.Frame{Kind: -1}
		}
		if !sameFrames(kept, x.m.there) {
			t.Error("two answers of All share memory:", kept)
		}
		x.alike()
		spoil(x.pop().Data)
		x.alike()
		if !slices.Equal(kept[0].Data, []byte{kept[0].Data[0], 2, 3}) {
			t.Error("Pop and All share memory:", kept[0])
		}
	}
	kept := x.q.All()
	l := x.q.Clear()
	l = l[:cap(l)]
	for i := range l {
		spoil(l[i].Data)
		l[i] = api.Frame{Kind: -1}
	}
	if !sameFrames(kept, x.m.there) {
		t.Error("Clear and All share memory:", kept)
	}
	x.m.clear()
	x.alike()
	x.push(classic(1))
	x.pop()
}

// Lists of one answer share no memory: each one's spare room is its own.
func TestListsOfOneAnswer(t *testing.T) {
	for name, all := range map[string]func(*fifo.Fifo) []api.Frame{"All": (*fifo.Fifo).All, "Clear": (*fifo.Fifo).Clear} {
		q := fifoOf(t, 10)
		data := []byte{7, 8}
		for i := range 10 {
			q.Push(api.Frame{Kind: api.XL, ID: uint32(i), Data: data})
		}
		l := all(q)
		if len(l) != 10 {
			t.Fatal(name, l)
		}
		for i := range l {
			spoil(l[i].Data)
			for j, f := range l[i+1:] {
				if !slices.Equal(f.Data, []byte{7, 8}) {
					t.Fatalf("%s: frames %d and %d share memory: %+v", name, i, i+1+j, f)
				}
			}
		}
	}
}

// Fifos know nothing of one another.
func TestIndependent(t *testing.T) {
	a, b := pair(t, 5), pair(t, 3)
	r := rand.New(rand.NewSource(8))
	for range 400 {
		for _, x := range []*both{a, b} {
			switch n := r.Intn(20); {
			case n == 0:
				x.clear()
			case n < 9:
				x.pop()
			default:
				x.push(pick(r, frames()))
			}
		}
		a.alike()
		b.alike()
	}
}

// Nor does one that is a copy of another.
func TestCopyIsIndependent(t *testing.T) {
	a := pair(t, 4)
	for i := range 6 {
		a.push(api.Frame{Kind: api.FD, ID: uint32(i), Data: []byte{byte(i), 1}})
	}
	q := *a.q
	b := &both{t: t, q: &q, m: &model{room: 4, over: a.m.over, there: slices.Clone(a.m.there)}}
	b.alike()
	f, e := a.q.Pop()
	if !frame.Same(f, api.Frame{Kind: api.FD, Data: []byte{0, 1}}) || e != api.OK {
		t.Fatal(f, e)
	}
	spoil(f.Data)
	b.alike()
	a.q.Push(classic(9))
	b.alike()
	for range 2 {
		b.pop()
		b.push(classic(8))
	}
	if l := a.q.Clear(); len(l) != 4 || l[0].ID != 1 || l[3].ID != 9 {
		t.Error(l)
	}
	b.alike()
}

// One script answers the same each time.
func TestTheSameEachTime(t *testing.T) {
	script := func() []api.Frame {
		r := rand.New(rand.NewSource(77))
		q := fifoOf(t, 20)
		var l []api.Frame
		for range 400 {
			switch n := r.Intn(50); {
			case n == 0:
				l = append(l, q.Clear()...)
			case n < 22:
				f, e := q.Pop()
				l = append(l, f, api.Frame{Kind: int(e)})
			default:
				is, _ := q.Push(pick(r, frames()))
				l = append(l, api.Frame{Ext: is})
			}
			l = append(l, q.All()...)
			l = append(l, api.Frame{Kind: q.Len(), ID: uint32(q.Over())})
		}
		return l
	}
	want := script()
	for range 3 {
		if !sameFrames(script(), want) {
			t.Error("one script answers differently")
		}
	}
}
