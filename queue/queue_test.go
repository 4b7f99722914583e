package queue_test

import (
	"math"
	"math/rand"
	"slices"
	"testing"

	"omnibus/api"
	"omnibus/frame"
	"omnibus/queue"
)

// P14.1

func TestNew(t *testing.T) {
	for room := range api.MaxQueue + 1 {
		q := queueOf(t, room)
		if x, e := q.Head(); q.Len() != 0 || len(q.All()) != 0 || !sameItem(x, queue.Item{}) || e != api.ErrNone {
			t.Errorf("of %d places: %d, %+v, %+v, %d", room, q.Len(), q.All(), x, e)
		}
	}
}

func TestNewRefuses(t *testing.T) {
	for _, room := range []int{-1, -2, -64, math.MinInt32, math.MinInt, math.MinInt + 1, api.MaxQueue + 1, api.MaxQueue + 2, 128, 1 << 32, 1<<32 + 1, math.MaxInt32, math.MaxInt} {
		if q, e := queue.New(room); q != nil || e != api.ErrArg {
			t.Errorf("New(%d): %v, %d", room, q, e)
		}
	}
}

// Each number of places is room for just so many.
func TestRoom(t *testing.T) {
	for room := range api.MaxQueue + 1 {
		x := pair(t, room)
		for i := range room + 3 {
			x.put(classic(uint32(5 * i % 64)))
		}
		if x.q.Len() != room {
			t.Errorf("of %d places: %d wait", room, x.q.Len())
		}
		if room > 0 {
			x.take()
			if no := x.put(classic(1)); no != room+1 {
				t.Errorf("of %d places, once one is free: %d", room, no)
			}
			x.cancel(room + 1)
			x.put(classic(2))
			x.put(classic(3))
		}
	}
}

// Only Puts that went well are counted, and what has left leaves its number behind.
func TestNumbers(t *testing.T) {
	x := pair(t, 2)
	for i := range 100 {
		if no := x.put(classic(uint32(i % 7))); no != 2*i+1 {
			t.Fatalf("round %d: %d", i, no)
		}
		x.put(api.Frame{})
		x.put(classic(5000))
		x.put(classic(uint32(6 - i%7)))
		x.put(classic(0))
		x.put(api.Frame{Kind: 9})
		if i%3 == 0 {
			x.cancel(2*i + 1)
			x.take()
		} else {
			x.take()
			x.take()
		}
		x.take()
	}
}

func TestPutOfAllKinds(t *testing.T) {
	for _, id := range []uint32{0, 1, 1024, 2047} {
		for _, f := range append(ofOneID(id), slices.Concat(ofOneKey(id)...)...) {
			x := pair(t, 1)
			if x.put(f) != 1 || !sameItem(x.take(), queue.Item{No: 1, F: f}) {
				t.Errorf("%+v", f)
			}
		}
	}
}

// A frame that may not be is refused, ahead of all else.
func TestPutRefuses(t *testing.T) {
	for i, f := range wrong() {
		for room := range 4 {
			x := pair(t, room)
			for n := range room + 1 {
				if no, e := x.q.Put(f); no != 0 || e != api.ErrArg {
					t.Errorf("frame %d, %d of %d places: %d, %d", i, n, room, no, e)
				}
				x.put(classic(uint32(room - n)))
			}
			if no, e := x.q.Put(f); no != 0 || e != api.ErrArg {
				t.Errorf("frame %d, %d places, full: %d, %d", i, room, no, e)
			}
			x.alike()
		}
	}
}

func TestPutIsFull(t *testing.T) {
	for _, room := range []int{0, 1, 2, 63, 64} {
		x := pair(t, room)
		for range room {
			x.put(classic(5))
		}
		for _, f := range ofOneID(0) {
			if no, e := x.q.Put(f); no != 0 || e != api.ErrFull {
				t.Errorf("%d places: %d, %d", room, no, e)
			}
			x.alike()
		}
	}
}

// Of each number of items each one is cancelled alone, and what is left stands in order.
func TestCancelEach(t *testing.T) {
	r := rand.New(rand.NewSource(14))
	for n := range 20 {
		for no := range n {
			x := pair(t, n)
			for range n {
				x.put(some(r))
			}
			x.cancel(no + 1)
			x.cancel(no + 1)
			for range n {
				x.take()
			}
		}
	}
}

// All are cancelled, in any order.
func TestCancelAll(t *testing.T) {
	r := rand.New(rand.NewSource(1))
	for range 40 {
		x := pair(t, 64)
		for range 64 {
			x.put(some(r))
		}
		for _, at := range r.Perm(64) {
			x.cancel(at + 1)
		}
		x.take()
		if no := x.put(classic(0)); no != 65 {
			t.Errorf("behind all that were cancelled: %d", no)
		}
	}
}

func TestCancelOfNone(t *testing.T) {
	x := pair(t, 4)
	never := []int{0, -1, -2, math.MinInt, math.MaxInt, 1 << 32, 1<<32 + 1, 5, 64, 65}
	for _, no := range append(never, 1) {
		x.cancel(no)
	}
	for i := range 4 {
		x.put(classic(uint32(9 - i)))
	}
	for _, no := range never {
		if e := x.q.Cancel(no); e != api.ErrNone {
			t.Errorf("Cancel(%d): %d", no, e)
		}
		x.alike()
	}
	x.take()
	if e := x.q.Cancel(4); e != api.ErrNone {
		t.Error("Cancel of what was taken:", e)
	}
	x.put(api.Frame{})
	if e := x.q.Cancel(5); e != api.ErrNone {
		t.Error("Cancel of what was refused:", e)
	}
}

// P14.2

// The chapter's example.
func TestExample(t *testing.T) {
	q := queueOf(t, 3)
	a, b, c := put(t, q, classic(5)), put(t, q, classic(3)), put(t, q, classic(5))
	want := []int{b, a, c}
	if got := numbers(q.All()); !slices.Equal(got, want) {
		t.Error("All:", got)
	}
	if got := numbers(taken(t, q)); !slices.Equal(got, want) {
		t.Error("taken:", got)
	}
}

// Head changes nothing, Take takes one.
func TestHeadAndTake(t *testing.T) {
	q := queueOf(t, 3)
	for _, id := range []uint32{7, 2, 4} {
		put(t, q, classic(id))
	}
	for i, want := range []queue.Item{{No: 2, F: classic(2)}, {No: 3, F: classic(4)}, {No: 1, F: classic(7)}} {
		for range 3 {
			if x, e := q.Head(); !sameItem(x, want) || e != api.OK || q.Len() != 3-i {
				t.Errorf("Head: %+v, %d, of %d", x, e, q.Len())
			}
		}
		if x, e := q.Take(); !sameItem(x, want) || e != api.OK || q.Len() != 2-i {
			t.Errorf("Take: %+v, %d, left %d", x, e, q.Len())
		}
	}
}

func TestOfNoneThatWaits(t *testing.T) {
	put2 := queueOf(t, 2)
	put(t, put2, classic(1))
	put(t, put2, classic(2))
	if e := put2.Cancel(1); e != api.OK {
		t.Fatal(e)
	}
	if x, e := put2.Take(); x.No != 2 || e != api.OK {
		t.Fatal(x, e)
	}
	for name, q := range map[string]*queue.Queue{"new": queueOf(t, 5), "no place": queueOf(t, 0), "all left": put2} {
		for range 2 {
			if x, e := q.Head(); !sameItem(x, queue.Item{}) || e != api.ErrNone {
				t.Errorf("%s: Head: %+v, %d", name, x, e)
			}
			if x, e := q.Take(); !sameItem(x, queue.Item{}) || e != api.ErrNone {
				t.Errorf("%s: Take: %+v, %d", name, x, e)
			}
			if e := q.Cancel(1); e != api.ErrNone || q.Len() != 0 || len(q.All()) != 0 {
				t.Errorf("%s: Cancel: %d, %d wait", name, e, q.Len())
			}
		}
	}
}

// All ways in which a few frames can be put, and some of them cancelled between.
func TestAllShortScripts(t *testing.T) {
	l := []api.Frame{classic(5), {Kind: api.FD, ID: 5}, classic(3), {Kind: api.Classic, ID: 3, Data: []byte{1}}}
	var script func(steps []int)
	script = func(steps []int) {
		x := pair(t, 3)
		for _, s := range steps {
			switch {
			case s < len(l):
				x.put(l[s])
			case s == len(l):
				x.take()
			default:
				x.cancel(s - len(l))
			}
		}
		if len(steps) == 4 {
			return
		}
		for s := range len(l) + 4 {
			script(append(slices.Clone(steps), s))
		}
	}
	script(nil)
}

func TestMixedScripts(t *testing.T) {
	for seed := range int64(60) {
		r := rand.New(rand.NewSource(seed))
		x := pair(t, r.Intn(api.MaxQueue+1))
		for range 300 {
			switch r.Intn(8) {
			case 0, 1, 2, 3:
				x.put(some(r))
			case 4:
				x.put(pick(r, wrong()))
			case 5:
				x.take()
			default:
				x.cancel(r.Intn(x.m.puts+3) - 1)
			}
		}
		for range x.m.waiting {
			x.take()
		}
	}
}

// P14.3

// What is taken comes in order, however it was put.
func TestTakenInOrder(t *testing.T) {
	r := rand.New(rand.NewSource(3))
	l := slices.Concat(ofOneID(0), ofOneID(1), ofOneID(5), ofOneID(1023), ofOneID(1024), ofOneID(2046), ofOneID(2047))
	for round := range 200 {
		l := slices.Clone(l)
		want := slices.Clone(l)
		switch round {
		case 0:
		case 1:
			slices.Reverse(l)
		default:
			r.Shuffle(len(l), func(i, j int) { l[i], l[j] = l[j], l[i] })
		}
		q := queueOf(t, len(l))
		for _, f := range l {
			put(t, q, f)
		}
		for i, x := range taken(t, q) {
			if !frame.Same(x.F, want[i]) || !frame.Same(l[x.No-1], x.F) {
				t.Fatalf("round %d, %d: %+v, wanted %+v", round, i, x, want[i])
			}
		}
	}
}

// Of one key what was put first comes first, with others between, too.
func TestOfOneKey(t *testing.T) {
	for _, id := range []uint32{0, 5, 2047} {
		for _, same := range ofOneKey(id) {
			for n := range 16 {
				x := pair(t, 64)
				for i := range n {
					x.put(same[i%len(same)])
					x.put(classic(uint32(7*i) % 2048))
				}
				for range n / 2 {
					x.take()
				}
				for _, f := range same {
					x.put(f)
				}
				var before []queue.Item
				for range x.m.waiting {
					before = append(before, x.take())
				}
				if !slices.IsSortedFunc(before, inOrder) {
					t.Errorf("%d of %+v: %+v", n, same[0], before)
				}
			}
		}
	}
}

// inOrder tells the chapter's order of two items.
func inOrder(a, b queue.Item) int {
	if key(a.F) < key(b.F) || key(a.F) == key(b.F) && a.No < b.No {
		return -1
	}
	return 1
}

// A queue that is emptied and filled again and again keeps to the order: numbers go on.
func TestOfOneKeyLong(t *testing.T) {
	q := queueOf(t, 64)
	next := 1
	for round := range 1000 {
		for q.Len() < 64 {
			put(t, q, classic(9))
		}
		for range 1 + round%64 {
			x, e := q.Take()
			if x.No != next || e != api.OK {
				t.Fatalf("round %d: %+v, %d, wanted number %d", round, x, e, next)
			}
			next++
		}
	}
}

// A nil Queue

func TestNil(t *testing.T) {
	var q *queue.Queue
	for _, f := range append(wrong(), ofOneID(5)...) {
		if no, e := q.Put(f); no != 0 || e != api.ErrNil {
			t.Errorf("Put: %d, %d", no, e)
		}
	}
	for _, no := range []int{0, 1, -1, math.MinInt, math.MaxInt} {
		if e := q.Cancel(no); e != api.ErrNil {
			t.Errorf("Cancel(%d): %d", no, e)
		}
	}
	if x, e := q.Head(); !sameItem(x, queue.Item{}) || e != api.ErrNil {
		t.Errorf("Head: %+v, %d", x, e)
	}
	if x, e := q.Take(); !sameItem(x, queue.Item{}) || e != api.ErrNil {
		t.Errorf("Take: %+v, %d", x, e)
	}
	if q.Len() != 0 || len(q.All()) != 0 {
		t.Error(q.Len(), q.All())
	}
}

// A Queue that New didn't make has no places.
func TestOfNew(t *testing.T) {
	q := &queue.Queue{}
	for _, f := range ofOneID(5) {
		if no, e := q.Put(f); no != 0 || e != api.ErrFull {
			t.Errorf("Put: %d, %d", no, e)
		}
	}
	if no, e := q.Put(api.Frame{}); no != 0 || e != api.ErrArg {
		t.Errorf("Put of no frame: %d, %d", no, e)
	}
	_, d := q.Head()
	_, e := q.Take()
	if c := q.Cancel(0); c != api.ErrNone || d != api.ErrNone || e != api.ErrNone || q.Len() != 0 || len(q.All()) != 0 {
		t.Error(c, d, e, q.Len(), q.All())
	}
}

// DOC.md's rules of lists, and of what answers hang on

func TestNilAndEmptyAreOne(t *testing.T) {
	for _, f := range []api.Frame{classic(5), {Kind: api.Classic, RTR: true}, {Kind: api.FD}} {
		q := queueOf(t, 2)
		g := f
		g.Data = []byte{}
		if put(t, q, g) != 1 || put(t, q, f) != 2 {
			t.Errorf("%+v", f)
		}
		for i, x := range taken(t, q) {
			if x.No != i+1 || !frame.Same(x.F, f) {
				t.Errorf("%+v: %+v", f, x)
			}
		}
	}
}

// What is handed in is not kept: it may change, and so may its spare room.
func TestPutKeepsNothing(t *testing.T) {
	room := []byte{1, 2, 3, 4, 5, 6, 7, 8}
	q := queueOf(t, 8)
	for n := range 5 {
		put(t, q, api.Frame{Kind: api.Classic, ID: uint32(n), Data: room[:n]})
	}
	q.All()
	q.Head()
	if !slices.Equal(room, []byte{1, 2, 3, 4, 5, 6, 7, 8}) {
		t.Fatal("bytes are written into:", room)
	}
	spoil(room)
	for n, x := range taken(t, q) {
		if !slices.Equal(x.F.Data, []byte{1, 2, 3, 4, 5, 6, 7, 8}[:n]) {
			t.Errorf("%d: %+v", n, x)
		}
	}
}

// spoil writes into all of a list's memory.
func spoil(l []byte) {
	l = l[:cap(l)]
	for i := range l {
		l[i] ^= 255
	}
}

// Answers share no memory with what waits, nor with one another.
func TestAnswersAreNew(t *testing.T) {
	x := pair(t, 6)
	for i := range 6 {
		x.put(api.Frame{Kind: api.FD, ID: uint32(i % 2), Data: []byte{byte(i), 2, 3}})
	}
	for range 6 {
		h, _ := x.q.Head()
		spoil(h.F.Data)
		x.alike()
		kept := x.q.All()
		l := x.q.All()
		l = l[:cap(l)]
		for i := range l {
			spoil(l[i].F.Data)
			l[i] = queue.Item{No: -1}
		}
		if !sameItems(kept, x.m.all()) {
			t.Error("two answers of All share memory:", kept)
		}
		x.alike()
		taken, _ := x.q.Take()
		want, _ := x.m.take()
		if !sameItem(taken, want) {
			t.Errorf("Take: %+v, wanted %+v", taken, want)
		}
		spoil(taken.F.Data)
		x.alike()
		if !sameItem(kept[0], want) {
			t.Error("Take and All share memory:", kept[0])
		}
	}
}

// Lists of one answer share no memory: each one's spare room is its own.
func TestListsOfOneAnswer(t *testing.T) {
	q := queueOf(t, 10)
	for i := range 10 {
		put(t, q, api.Frame{Kind: api.XL, ID: uint32(i), Data: []byte{7, byte(i)}})
	}
	l := q.All()
	for i := range l {
		spoil(l[i].F.Data)
		for j := range l[i+1:] {
			if x := l[i+1+j]; !slices.Equal(x.F.Data, []byte{7, byte(i + 1 + j)}) {
				t.Fatalf("items %d and %d share memory: %+v", i, i+1+j, x)
			}
		}
	}
}

// Queues know nothing of one another.
func TestIndependent(t *testing.T) {
	a, b := pair(t, 5), pair(t, 3)
	r := rand.New(rand.NewSource(8))
	for range 200 {
		for _, x := range []*both{a, b} {
			switch r.Intn(4) {
			case 0:
				x.take()
			case 1:
				x.cancel(r.Intn(x.m.puts + 2))
			default:
				x.put(some(r))
			}
		}
		a.alike()
		b.alike()
	}
}

// One script answers the same each time.
func TestTheSameEachTime(t *testing.T) {
	script := func() []queue.Item {
		r := rand.New(rand.NewSource(77))
		q := queueOf(t, 40)
		var l []queue.Item
		for range 400 {
			switch r.Intn(4) {
			case 0:
				x, _ := q.Take()
				l = append(l, x)
			case 1:
				e := q.Cancel(r.Intn(200))
				l = append(l, queue.Item{No: int(e)})
			default:
				no, _ := q.Put(some(r))
				l = append(l, queue.Item{No: no})
			}
			l = append(l, q.All()...)
		}
		return l
	}
	want := script()
	for range 3 {
		if !sameItems(script(), want) {
			t.Error("one script answers differently")
		}
	}
}
