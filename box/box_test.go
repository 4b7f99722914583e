package box_test

import (
	"math"
	"math/rand"
	"slices"
	"testing"

	"omnibus/api"
	"omnibus/box"
	"omnibus/filter"
	"omnibus/frame"
	"omnibus/queue"
)

// P17.1

// All numbers of places that may be, and banks of all sorts; nothing is there yet.
func TestNew(t *testing.T) {
	for out := range api.MaxQueue + 1 {
		for in := range api.MaxFifo + 1 {
			x := pair(t, box.Conf{Out: out, In: in, Bank: letsAll, XL: out%2 == 0})
			x.alike()
			x.take()
		}
	}
	for _, bank := range banks() {
		for _, xl := range []bool{false, true} {
			x := pair(t, box.Conf{Out: 1, In: 1, Bank: bank, XL: xl})
			x.alike()
			x.take()
			reports(t, x.b, box.Report{})
		}
	}
}

func TestNewRefuses(t *testing.T) {
	refuses := func(c box.Conf) {
		t.Helper()
		for _, xl := range []bool{false, true} {
			c.XL = xl
			if b, e := box.New(c); b != nil || e != api.ErrArg {
				t.Errorf("New(%+v): %v, %d", c, b, e)
			}
		}
	}
	for _, room := range wrongRooms() {
		refuses(box.Conf{Out: room, In: 1, Bank: letsAll})
		refuses(box.Conf{Out: 1, In: room, Bank: letsAll})
		refuses(box.Conf{Out: room, In: room})
		refuses(box.Conf{Out: room, In: room, Bank: wrongBanks()[0]})
	}
	for _, bank := range wrongBanks() {
		refuses(box.Conf{Out: 1, In: 1, Bank: bank})
		refuses(box.Conf{Bank: bank})
		refuses(box.Conf{Out: 64, In: 64, Bank: bank})
	}
}

// Out is the queue's room, and In the fifo's, not the other way round.
func TestRooms(t *testing.T) {
	for _, c := range []box.Conf{{Out: 0, In: 0}, {Out: 0, In: 3}, {Out: 3, In: 0}, {Out: 1, In: 2}, {Out: 63, In: 64}, {Out: 64, In: 1}, {Out: 5, In: 63}} {
		c.Bank = letsAll
		x := pair(t, c)
		for i := range 66 {
			x.put(classic(uint32(5 * i % 64)))
			x.come(classic(uint32(i)))
		}
		reports(t, x.b, box.Report{Waits: c.Out, Stands: c.In, Put: c.Out, Came: 66, Kept: c.In, Over: 66 - c.In})
	}
}

// What is put comes next as it was, whatever its fields are.
func TestPutOfAllKinds(t *testing.T) {
	for _, f := range frames() {
		x := pair(t, box.Conf{Out: 1, XL: true})
		no := x.put(f)
		if is, e := x.b.Next(); no != 1 || !sameItem(is, queue.Item{No: 1, F: f}) || e != api.OK {
			t.Errorf("%+v: %+v, %d", f, is, e)
		}
		x.done(1)
	}
}

// An XL frame that may be is alien to a box that knows none, be there a place or not, and takes neither a place nor a number; all others are not.
func TestPutOfAliens(t *testing.T) {
	for out := range 4 {
		x := pair(t, box.Conf{Out: out})
		for n := range out + 2 {
			for _, f := range frames() {
				if f.Kind != api.XL {
					continue
				}
				if no, e := x.b.Put(f); no != 0 || e != api.ErrAlien {
					t.Errorf("%d of %d places: %d, %d", n, out, no, e)
				}
				x.alike()
			}
			if no := x.put(classic(uint32(9 - n))); n < out && no != n+1 || n >= out && no != 0 {
				t.Errorf("%d of %d places: number %d", n, out, no)
			}
		}
	}
	for _, f := range frames() {
		x := pair(t, box.Conf{Out: 1})
		if no := x.put(f); (no == 0) != (f.Kind == api.XL) {
			t.Errorf("%+v: %d", f, no)
		}
	}
}

// A box that knows XL frames has no aliens: one too many is as any other.
func TestPutIsFull(t *testing.T) {
	for _, out := range []int{0, 1, 2, 63, 64} {
		for _, xl := range []bool{false, true} {
			x := pair(t, box.Conf{Out: out, XL: xl})
			for range out {
				x.put(classic(5))
			}
			for _, f := range frames() {
				want := api.ErrFull
				if f.Kind == api.XL && !xl {
					want = api.ErrAlien
				}
				if no, e := x.b.Put(f); no != 0 || e != want {
					t.Errorf("%d places, %t, %+v: %d, %d", out, xl, f, no, e)
				}
				x.alike()
			}
		}
	}
}

// A frame that may not be is ErrArg ahead of all else: an XL frame is alien only if it may be, and a full queue isn't told.
func TestPutRefuses(t *testing.T) {
	for i, f := range wrong() {
		for out := range 3 {
			for _, xl := range []bool{false, true} {
				x := pair(t, box.Conf{Out: out, XL: xl})
				for n := range out + 1 {
					if no, e := x.b.Put(f); no != 0 || e != api.ErrArg {
						t.Errorf("frame %d, %d of %d places, %t: %d, %d", i, n, out, xl, no, e)
					}
					x.alike()
					x.put(classic(uint32(n)))
				}
			}
		}
	}
}

// Numbers count the Puts that went well, and go on when others have left.
func TestNumbers(t *testing.T) {
	x := pair(t, box.Conf{Out: 2})
	for i := range 60 {
		if no := x.put(classic(uint32(i % 7))); no != 2*i+1 {
			t.Fatalf("round %d: %d", i, no)
		}
		x.put(api.Frame{})
		x.put(long(5))
		x.put(classic(uint32(6 - i%7)))
		x.put(classic(0))
		x.done(2*i + 1 + i%2)
		x.cancel(2*i + 2 - i%2)
	}
	reports(t, x.b, box.Report{Put: 120, Sent: 60, Gone: 60})
}

// Each one that waits is cancelled, or done, alone: only that one leaves, and it leaves once.
func TestCancelAndDone(t *testing.T) {
	for n := range 12 {
		for at := range n {
			for _, way := range []func(*both, int){(*both).cancel, (*both).done} {
				x := pair(t, box.Conf{Out: n})
				for i := range n {
					x.put(classic(uint32(7 * i % 12)))
				}
				way(x, at+1)
				x.cancel(at + 1)
				x.done(at + 1)
				if r := x.b.Report(); r.Waits != n-1 || r.Sent+r.Gone != 1 {
					t.Errorf("of %d, number %d: %+v", n, at+1, r)
				}
			}
		}
	}
	x := pair(t, box.Conf{Out: 4})
	for i := range 4 {
		x.put(classic(uint32(9 - i)))
	}
	x.cancel(4)
	x.done(2)
	x.done(1)
	reports(t, x.b, box.Report{Waits: 1, Put: 4, Sent: 2, Gone: 1})
}

func TestCancelAndDoneOfNone(t *testing.T) {
	x := pair(t, box.Conf{Out: 3, In: 3, Bank: letsAll})
	never := []int{0, -1, -2, math.MinInt, math.MaxInt, 1 << 32, 1<<32 + 1, 4, 5, 64, 65}
	none := func(nos ...int) {
		t.Helper()
		for _, no := range nos {
			if c, d := x.b.Cancel(no), x.b.Done(no); c != api.ErrNone || d != api.ErrNone {
				t.Errorf("number %d: Cancel: %d, Done: %d", no, c, d)
			}
			x.alike()
		}
	}
	none(append(never, 1, 2, 3)...)
	for i := range 3 {
		x.put(classic(uint32(9 - i)))
		x.come(classic(uint32(i)))
	}
	x.put(classic(1))
	x.put(long(1))
	x.put(api.Frame{})
	none(never...)
	x.cancel(1)
	x.done(2)
	none(append(never, 1, 2)...)
	reports(t, x.b, box.Report{Waits: 1, Stands: 3, Put: 3, Sent: 1, Gone: 1, Came: 3, Kept: 3})
}

// Next is the lowest key, of one key what was put first; it waits on till it is done, or cancelled.
func TestNext(t *testing.T) {
	b := boxOf(t, box.Conf{Out: 5, XL: true})
	for _, f := range []api.Frame{long(5), classic(5), classic(3), {Kind: api.FD, ID: 5}, classic(5)} {
		if _, e := b.Put(f); e != api.OK {
			t.Fatal(e)
		}
	}
	for i, want := range []int{3, 2, 5, 4, 1} {
		for range 3 {
			if x, e := b.Next(); x.No != want || e != api.OK {
				t.Errorf("Next: %+v, %d, wanted number %d", x, e, want)
			}
		}
		leave := b.Done
		if i%2 == 1 {
			leave = b.Cancel
		}
		if e := leave(want); e != api.OK {
			t.Errorf("number %d: %d", want, e)
		}
	}
	if x, e := b.Next(); !sameItem(x, queue.Item{}) || e != api.ErrNone {
		t.Errorf("behind all: %+v, %d", x, e)
	}
	reports(t, b, box.Report{Put: 5, Sent: 3, Gone: 2})
}

// P17.2

// The chapter's example, and the document's tenth: a bank that lets nothing in.
func TestExample(t *testing.T) {
	b := boxOf(t, box.Conf{In: 1})
	if is, e := b.Come(classic(5)); is != box.Refused || e != api.OK {
		t.Error(is, e)
	}
	reports(t, b, box.Report{Came: 1, Refused: 1})
	for i, f := range frames() {
		if is, e := b.Come(f); is != box.Refused || e != api.OK {
			t.Error(i, is, e)
		}
		reports(t, b, box.Report{Came: i + 2, Refused: i + 2})
	}
}

// What is let in is kept as long as there are places, and then over; what isn't is refused, be there a place or not.
func TestCome(t *testing.T) {
	b := boxOf(t, box.Conf{In: 2, Bank: letsOdd()})
	for i, x := range []struct {
		id uint32
		is int
	}{{2, box.Refused}, {3, box.Kept}, {4, box.Refused}, {5, box.Kept}, {7, box.Over}, {6, box.Refused}, {9, box.Over}} {
		if is, e := b.Come(classic(x.id)); is != x.is || e != api.OK {
			t.Errorf("%d: Come: %d, %d, wanted %d", i, is, e, x.is)
		}
	}
	reports(t, b, box.Report{Stands: 2, Came: 7, Kept: 2, Refused: 3, Over: 2})
	for _, id := range []uint32{3, 5} {
		if f, e := b.Take(); !frame.Same(f, classic(id)) || e != api.OK {
			t.Errorf("Take: %+v, %d, wanted ID %d", f, e, id)
		}
	}
	if f, e := b.Take(); !frame.Same(f, api.Frame{}) || e != api.ErrNone {
		t.Errorf("Take behind all: %+v, %d", f, e)
	}
	reports(t, b, box.Report{Came: 7, Kept: 2, Refused: 3, Over: 2, Taken: 2})
}

// What the calls answer is told by numbers that the chapter names.
func TestFates(t *testing.T) {
	if box.Kept != 0 || box.Refused != 1 || box.Over != 2 {
		t.Error(box.Kept, box.Refused, box.Over)
	}
}

// Frames of all kinds come in as the bank says, at each number of places.
func TestComeOfAllKinds(t *testing.T) {
	for _, bank := range banks() {
		for _, in := range []int{0, 1, 2, 7, 64} {
			x := pair(t, box.Conf{In: in, Bank: bank, XL: true})
			for range 3 {
				for _, f := range frames() {
					x.come(f)
				}
				for range in/2 + 1 {
					x.take()
				}
			}
			for range in + 1 {
				x.take()
			}
		}
	}
}

// The chapter lets XL frames come to a box that knows none, too: they are as any others.
func TestComeOfAliens(t *testing.T) {
	x := pair(t, box.Conf{Out: 1, In: 1, Bank: letsOdd()})
	for i, want := range []int{box.Refused, box.Kept, box.Refused, box.Over} {
		if is := x.come(long(uint32(i))); is != want {
			t.Errorf("%d: %d, wanted %d", i, is, want)
		}
	}
	if f := x.take(); !frame.Same(f, long(1)) {
		t.Errorf("Take: %+v", f)
	}
}

// A frame that may not be is ErrArg, whatever the bank says, be there a place or not; it isn't counted.
func TestComeRefuses(t *testing.T) {
	for i, f := range wrong() {
		for _, bank := range banks() {
			for in := range 3 {
				x := pair(t, box.Conf{In: in, Bank: bank})
				for n := range in + 2 {
					if is, e := x.b.Come(f); is != 0 || e != api.ErrArg {
						t.Errorf("frame %d, %d in, %d places: %d, %d", i, n, in, is, e)
					}
					x.alike()
					x.come(classic(uint32(2*n + 1)))
				}
			}
		}
	}
}

// Take is the oldest one, and frees a place; what was over is lost for good.
func TestTake(t *testing.T) {
	for _, in := range []int{1, 2, 3, 63, 64} {
		x := pair(t, box.Conf{In: in, Bank: letsAll})
		no := uint32(0)
		for round := range 2*in + 3 {
			for range in + 1 {
				x.come(api.Frame{Kind: api.Classic, Ext: true, ID: no})
				no++
			}
			for range 1 + round%in {
				x.take()
			}
		}
		for range in + 1 {
			x.take()
		}
		if r := x.b.Report(); r.Stands != 0 || r.Kept != r.Taken || r.Over == 0 {
			t.Errorf("%d places: %+v", in, r)
		}
	}
}

// P17.3

// Each call counts what it was, and nothing else.
func TestReport(t *testing.T) {
	b := boxOf(t, box.Conf{Out: 3, In: 1, Bank: letsOdd()})
	want := box.Report{}
	for i, x := range []struct {
		call  func()
		count func()
	}{
		{func() { b.Put(classic(1)) }, func() { want.Put++; want.Waits++ }},
		{func() { b.Put(classic(2)) }, func() { want.Put++; want.Waits++ }},
		{func() { b.Put(long(2)) }, func() {}},
		{func() { b.Put(api.Frame{}) }, func() {}},
		{func() { b.Put(classic(3)) }, func() { want.Put++; want.Waits++ }},
		{func() { b.Put(classic(4)) }, func() {}},
		{func() { b.Next() }, func() {}},
		{func() { b.Done(2) }, func() { want.Sent++; want.Waits-- }},
		{func() { b.Done(2) }, func() {}},
		{func() { b.Cancel(2) }, func() {}},
		{func() { b.Cancel(1) }, func() { want.Gone++; want.Waits-- }},
		{func() { b.Cancel(1) }, func() {}},
		{func() { b.Done(1) }, func() {}},
		{func() { b.Cancel(9) }, func() {}},
		{func() { b.Take() }, func() {}},
		{func() { b.Come(classic(2)) }, func() { want.Came++; want.Refused++ }},
		{func() { b.Come(classic(1)) }, func() { want.Came++; want.Kept++; want.Stands++ }},
		{func() { b.Come(classic(3)) }, func() { want.Came++; want.Over++ }},
		{func() { b.Come(classic(4)) }, func() { want.Came++; want.Refused++ }},
		{func() { b.Come(api.Frame{}) }, func() {}},
		{func() { b.Take() }, func() { want.Taken++; want.Stands-- }},
		{func() { b.Take() }, func() {}},
		{func() { b.Come(long(5)) }, func() { want.Came++; want.Kept++; want.Stands++ }},
		{func() { b.Done(3) }, func() { want.Sent++; want.Waits-- }},
		{func() { b.Next() }, func() {}},
	} {
		x.call()
		x.count()
		for range 2 {
			if r := b.Report(); r != want {
				t.Errorf("call %d: %+v, wanted %+v", i, r, want)
			}
		}
	}
}

// Counts go on as far as is called.
func TestReportLong(t *testing.T) {
	b := boxOf(t, box.Conf{Out: 1, In: 1, Bank: letsOdd()})
	const n = 20000
	for i := range n {
		no, _ := b.Put(classic(uint32(i % 2048)))
		if i%4 == 0 {
			b.Cancel(no)
		} else {
			b.Done(no)
		}
		b.Come(classic(1))
		b.Come(classic(3))
		b.Come(classic(5))
		b.Come(classic(2))
		b.Take()
	}
	reports(t, b, box.Report{Put: n, Sent: n - n/4, Gone: n / 4, Came: 4 * n, Kept: n, Refused: n, Over: 2 * n, Taken: n})
}

// P17.4

// All ways in which calls can follow one another, of few places; after each call all adds up.
func TestAllShortScripts(t *testing.T) {
	calls := []func(*both){
		func(x *both) { x.put(classic(4)) },
		func(x *both) { x.put(classic(2)) },
		func(x *both) { x.put(long(1)) },
		func(x *both) { x.cancel(1) },
		func(x *both) { x.done(1) },
		func(x *both) { x.done(2) },
		func(x *both) { x.come(classic(1)) },
		func(x *both) { x.come(classic(2)) },
		func(x *both) { x.take() },
	}
	for room := range 6 {
		c := box.Conf{Out: room % 3, In: 2 - room%3, Bank: letsOdd(), XL: room > 2}
		for script := range 9 * 9 * 9 * 9 * 9 {
			x := pair(t, c)
			for ; script > 0; script /= 9 {
				calls[script%9](x)
			}
		}
	}
}

func TestMixedScripts(t *testing.T) {
	for seed := range int64(120) {
		r := rand.New(rand.NewSource(seed))
		x := pair(t, box.Conf{Out: r.Intn(api.MaxQueue + 1), In: r.Intn(api.MaxFifo + 1), Bank: pick(r, banks()), XL: r.Intn(2) == 0})
		busy := 1 + r.Intn(4)
		for range 400 {
			mixed(x, r, busy)
		}
		left, _ := x.b.Next()
		for ; left.No != 0; left, _ = x.b.Next() {
			x.done(left.No)
		}
		for range x.b.Report().Stands + 1 {
			x.take()
		}
		if rep := x.b.Report(); rep.Put != rep.Sent+rep.Gone || rep.Kept != rep.Taken {
			t.Errorf("seed %d, when all has left: %+v", seed, rep)
		}
	}
}

// mixed is any call; a busier one puts in more than leaves.
func mixed(x *both, r *rand.Rand, busy int) {
	x.t.Helper()
	switch n := r.Intn(30); {
	case n == 0:
		x.put(pick(r, wrong()))
	case n == 1:
		x.come(pick(r, wrong()))
	case n < 3+3*busy:
		if r.Intn(2) == 0 {
			x.put(pick(r, frames()))
		} else {
			x.come(pick(r, frames()))
		}
	case n%4 == 0:
		x.cancel(r.Intn(len(x.m.puts) + 2))
	case n%4 == 1:
		is, _ := x.b.Next()
		x.done(is.No)
	case n%4 == 2:
		x.done(r.Intn(len(x.m.puts)+3) - 1)
	default:
		x.take()
	}
}

// A nil Box

func TestNil(t *testing.T) {
	var b *box.Box
	for _, f := range append(wrong(), frames()...) {
		if no, e := b.Put(f); no != 0 || e != api.ErrNil {
			t.Errorf("Put: %d, %d", no, e)
		}
		if is, e := b.Come(f); is != 0 || e != api.ErrNil {
			t.Errorf("Come: %d, %d", is, e)
		}
	}
	for _, no := range []int{0, 1, -1, math.MinInt, math.MaxInt} {
		if c, d := b.Cancel(no), b.Done(no); c != api.ErrNil || d != api.ErrNil {
			t.Errorf("number %d: Cancel: %d, Done: %d", no, c, d)
		}
	}
	if x, e := b.Next(); !sameItem(x, queue.Item{}) || e != api.ErrNil {
		t.Errorf("Next: %+v, %d", x, e)
	}
	if f, e := b.Take(); !frame.Same(f, api.Frame{}) || e != api.ErrNil {
		t.Errorf("Take: %+v, %d", f, e)
	}
	reports(t, b, box.Report{})
}

// A Box that New didn't make is as one of a zero Conf.
func TestOfNew(t *testing.T) {
	x := &both{t: t, b: &box.Box{}, m: &model{}}
	x.alike()
	for _, f := range append(wrong(), frames()...) {
		x.put(f)
		x.come(f)
	}
	for no := range 3 {
		x.cancel(no)
		x.done(no)
	}
	x.take()
	reports(t, x.b, box.Report{Came: len(frames()), Refused: len(frames())})
}

// DOC.md's rules of lists, and of what answers hang on

func TestNilAndEmptyAreOne(t *testing.T) {
	empty := filter.Bank{Rules: []filter.Rule{}, Else: true}
	x := pair(t, box.Conf{Out: 4, In: 4, Bank: empty, XL: true})
	for _, f := range []api.Frame{classic(5), {Kind: api.FD}} {
		g := f
		g.Data = []byte{}
		x.put(f)
		x.put(g)
		x.come(f)
		x.come(g)
	}
	for i := range 4 {
		if f := x.take(); len(f.Data) != 0 {
			t.Errorf("%d: %+v", i, f)
		}
	}
	if x.come(api.Frame{Kind: api.XL, Data: []byte{}}) != 0 || x.b.Report().Came != 4 {
		t.Error("an XL frame without Data:", x.b.Report())
	}
}

// spoil writes into all of a list's memory.
func spoil(l []byte) {
	l = l[:cap(l)]
	for i := range l {
		l[i] ^= 255
	}
}

// The bank's rules are neither changed nor kept: they may change behind New, and so may their spare room.
func TestNewKeepsNothing(t *testing.T) {
	odd := filter.Rule{Kinds: 7, ID: 1, IDMask: 1, In: true}
	room := []filter.Rule{odd, odd, {Kinds: 7}, {Kinds: 2}, {Kinds: 4, In: true}}
	want := slices.Clone(room)
	x := pair(t, box.Conf{In: 8, Bank: filter.Bank{Rules: room[:3], Else: true}})
	x.m.c.Bank.Rules = want[:3]
	for i := range 4 {
		x.come(classic(uint32(i)))
	}
	if !slices.Equal(room, want) {
		t.Fatal("rules are written into:", room)
	}
	for i := range room {
		room[i] = filter.Rule{Kinds: -1, In: true}
	}
	for i := range 8 {
		if is := x.come(classic(uint32(i))); (is == box.Refused) != (i%2 == 0) {
			t.Errorf("ID %d, when the rules have changed: %d", i, is)
		}
	}
}

// What is handed in is neither changed nor kept: it may change, and so may its spare room.
func TestFramesAreNotKept(t *testing.T) {
	room := []byte{1, 2, 3, 4, 5, 6, 7, 8}
	b := boxOf(t, box.Conf{Out: 8, In: 8, Bank: letsAll})
	for n := range 8 {
		b.Put(api.Frame{Kind: api.Classic, ID: uint32(n), Data: room[:n]})
		b.Come(api.Frame{Kind: api.Classic, ID: uint32(n), Data: room[:n]})
	}
	if !slices.Equal(room, []byte{1, 2, 3, 4, 5, 6, 7, 8}) {
		t.Fatal("bytes are written into:", room)
	}
	spoil(room)
	for n := range 8 {
		want := []byte{1, 2, 3, 4, 5, 6, 7, 8}[:n]
		if x, e := b.Next(); e != api.OK || !slices.Equal(x.F.Data, want) {
			t.Errorf("Next: %+v, %d", x, e)
		}
		b.Done(n + 1)
		if f, e := b.Take(); e != api.OK || !slices.Equal(f.Data, want) {
			t.Errorf("Take: %+v, %d", f, e)
		}
	}
}

// Answers share no memory with what waits or stands, nor with one another.
func TestAnswersAreNew(t *testing.T) {
	x := pair(t, box.Conf{Out: 6, In: 6, Bank: letsAll, XL: true})
	data := []byte{7, 8, 9}
	for i := range 6 {
		f := api.Frame{Kind: api.XL, ID: uint32(i), Data: data}
		x.put(f)
		x.come(f)
	}
	for i := range 6 {
		kept, _ := x.b.Next()
		is, _ := x.b.Next()
		spoil(is.F.Data)
		x.alike()
		f := x.take()
		spoil(f.Data)
		x.alike()
		x.done(i + 1)
		if !slices.Equal(kept.F.Data, []byte{7, 8, 9}) {
			t.Errorf("%d: two answers of Next share memory: %+v", i, kept)
		}
	}
	if !slices.Equal(data, []byte{7, 8, 9}) {
		t.Error("an answer shares memory with what was handed in:", data)
	}
}

// Boxes know nothing of one another, those of one Conf neither.
func TestIndependent(t *testing.T) {
	c := box.Conf{Out: 5, In: 3, Bank: letsOdd()}
	all := []*both{pair(t, c), pair(t, c), pair(t, box.Conf{Out: 3, In: 5, Bank: c.Bank, XL: true})}
	r := rand.New(rand.NewSource(17))
	for range 400 {
		mixed(pick(r, all), r, 2)
		for _, x := range all {
			x.alike()
		}
	}
}

// One script answers the same each time.
func TestTheSameEachTime(t *testing.T) {
	script := func() []box.Report {
		r := rand.New(rand.NewSource(77))
		x := pair(t, box.Conf{Out: 9, In: 9, Bank: letsOdd(), XL: true})
		var l []box.Report
		for range 400 {
			mixed(x, r, 2)
			l = append(l, x.b.Report())
		}
		return l
	}
	want := script()
	for range 3 {
		if !slices.Equal(script(), want) {
			t.Error("one script answers differently")
		}
	}
}
