package box_test

import (
	"math"
	"math/rand"
	"slices"
	"testing"

	"omnibus/api"
	"omnibus/box"
	"omnibus/filter"
	"omnibus/frame"
	"omnibus/order"
	"omnibus/queue"
)

// model tells the chapter's words a second time: what was put stands as it was put, with what became of it, and what came as it came; all that is reported is counted there when it is asked.
type model struct {
	c    box.Conf
	puts []was
	came []was
}

// was is a frame, and what became of it.
type was struct {
	f  api.Frame
	is int
}

// What may become of a frame that was put.
const (
	waits = iota
	sent
	gone
)

// What may become of a frame that came.
const (
	stands = iota
	taken
	refused
	over
)

func many(l []was, is int) int {
	n := 0
	for _, x := range l {
		if x.is == is {
			n++
		}
	}
	return n
}

func (m *model) put(f api.Frame) (int, api.Errno) {
	switch {
	case frame.Check(f) != api.OK:
		return 0, api.ErrArg
	case f.Kind == api.XL && !m.c.XL:
		return 0, api.ErrAlien
	case many(m.puts, waits) == m.c.Out:
		return 0, api.ErrFull
	}
	m.puts = append(m.puts, was{frame.Copy(f), waits})
	return len(m.puts), api.OK
}

func (m *model) leave(no, as int) api.Errno {
	if no < 1 || no > len(m.puts) || m.puts[no-1].is != waits {
		return api.ErrNone
	}
	m.puts[no-1].is = as
	return api.OK
}

// next is the lowest key of those that wait, of one key the first that was put.
func (m *model) next() (queue.Item, api.Errno) {
	at := -1
	for i, x := range m.puts {
		if x.is == waits && (at < 0 || lower(x.f, m.puts[at].f)) {
			at = i
		}
	}
	if at < 0 {
		return queue.Item{}, api.ErrNone
	}
	return queue.Item{No: at + 1, F: m.puts[at].f}, api.OK
}

func lower(a, b api.Frame) bool {
	is, _ := order.Compare(a, b)
	return is < 0
}

func (m *model) come(f api.Frame) (int, api.Errno) {
	lets, e := filter.In(m.c.Bank, f)
	is, says := stands, box.Kept
	switch {
	case e != api.OK:
		return 0, api.ErrArg
	case !lets:
		is, says = refused, box.Refused
	case many(m.came, stands) == m.c.In:
		is, says = over, box.Over
	}
	m.came = append(m.came, was{frame.Copy(f), is})
	return says, api.OK
}

func (m *model) take() (api.Frame, api.Errno) {
	for i, x := range m.came {
		if x.is == stands {
			m.came[i].is = taken
			return x.f, api.OK
		}
	}
	return api.Frame{}, api.ErrNone
}

func (m *model) report() box.Report {
	return box.Report{
		Waits:   many(m.puts, waits),
		Stands:  many(m.came, stands),
		Put:     len(m.puts),
		Sent:    many(m.puts, sent),
		Gone:    many(m.puts, gone),
		Came:    len(m.came),
		Kept:    many(m.came, stands) + many(m.came, taken),
		Refused: many(m.came, refused),
		Over:    many(m.came, over),
		Taken:   many(m.came, taken),
	}
}

func sameItem(a, b queue.Item) bool {
	return a.No == b.No && frame.Same(a.F, b.F)
}

// both are a box and its model, which must answer alike.
type both struct {
	t     *testing.T
	b     *box.Box
	m     *model
	calls int
}

func pair(t *testing.T, c box.Conf) *both {
	t.Helper()
	return &both{t: t, b: boxOf(t, c), m: &model{c: c}}
}

// alike asks all that changes nothing, and holds P17.4.
func (x *both) alike() {
	x.t.Helper()
	x.calls++
	r := x.b.Report()
	if want := x.m.report(); r != want {
		x.t.Fatalf("call %d of %+v: Report: %+v, wanted %+v", x.calls, x.m.c, r, want)
	}
	whole(x.t, r)
	is, e := x.b.Next()
	if want, d := x.m.next(); !sameItem(is, want) || e != d {
		x.t.Fatalf("call %d of %+v: Next: %+v, %d, wanted %+v, %d", x.calls, x.m.c, is, e, want, d)
	}
}

// whole holds P17.4 of a report.
func whole(t *testing.T, r box.Report) {
	t.Helper()
	if r.Put != r.Waits+r.Sent+r.Gone || r.Came != r.Kept+r.Refused+r.Over || r.Kept != r.Stands+r.Taken {
		t.Fatalf("what is counted doesn't add up: %+v", r)
	}
}

func (x *both) put(f api.Frame) int {
	x.t.Helper()
	no, e := x.b.Put(f)
	if want, d := x.m.put(f); no != want || e != d {
		x.t.Fatalf("call %d of %+v: Put(%+v): %d, %d, wanted %d, %d", x.calls, x.m.c, f, no, e, want, d)
	}
	x.alike()
	return no
}

func (x *both) cancel(no int) {
	x.t.Helper()
	e := x.b.Cancel(no)
	if d := x.m.leave(no, gone); e != d {
		x.t.Fatalf("call %d of %+v: Cancel(%d): %d, wanted %d", x.calls, x.m.c, no, e, d)
	}
	x.alike()
}

func (x *both) done(no int) {
	x.t.Helper()
	e := x.b.Done(no)
	if d := x.m.leave(no, sent); e != d {
		x.t.Fatalf("call %d of %+v: Done(%d): %d, wanted %d", x.calls, x.m.c, no, e, d)
	}
	x.alike()
}

func (x *both) come(f api.Frame) int {
	x.t.Helper()
	is, e := x.b.Come(f)
	if want, d := x.m.come(f); is != want || e != d {
		x.t.Fatalf("call %d of %+v: Come(%+v): %d, %d, wanted %d, %d", x.calls, x.m.c, f, is, e, want, d)
	}
	x.alike()
	return is
}

func (x *both) take() api.Frame {
	x.t.Helper()
	f, e := x.b.Take()
	if want, d := x.m.take(); !frame.Same(f, want) || e != d {
		x.t.Fatalf("call %d of %+v: Take: %+v, %d, wanted %+v, %d", x.calls, x.m.c, f, e, want, d)
	}
	x.alike()
	return f
}

func boxOf(t *testing.T, c box.Conf) *box.Box {
	t.Helper()
	b, e := box.New(c)
	if b == nil || e != api.OK {
		t.Fatalf("New(%+v): %v, %d", c, b, e)
	}
	return b
}

func reports(t *testing.T, b *box.Box, want box.Report) {
	t.Helper()
	if r := b.Report(); r != want {
		t.Errorf("Report: %+v, wanted %+v", r, want)
	}
}

// Here stand banks and frames to try.

// letsAll and letsNone are banks without rules.
var (
	letsAll  = filter.Bank{Else: true}
	letsNone = filter.Bank{}
)

// letsOdd is a bank that lets in odd IDs.
func letsOdd() filter.Bank {
	return filter.Bank{Rules: []filter.Rule{{Kinds: 7, ID: 1, IDMask: 1, In: true}}}
}

// banks are some that may be: each way to let in and to refuse, and rules ahead of one another.
func banks() []filter.Bank {
	even := filter.Rule{Kinds: 7, IDMask: 1}
	return []filter.Bank{
		letsAll,
		letsNone,
		letsOdd(),
		{Rules: []filter.Rule{even}, Else: true},
		{Rules: []filter.Rule{{Kinds: 4}, {Kinds: 7, ID: 1, IDMask: 1, In: true}, {Kinds: 7}}, Else: true},
		{Rules: []filter.Rule{{Kinds: 7, In: true}, {Kinds: 7}}},
		{Rules: []filter.Rule{even, {Kinds: 7, IDMask: 1, In: true}, {Kinds: 3, In: true}}},
		{Rules: slices.Repeat([]filter.Rule{{Kinds: 2, In: true}}, 32)},
	}
}

// wrongBanks are some that may not be.
func wrongBanks() []filter.Bank {
	right := filter.Rule{Kinds: 7, In: true}
	l := []filter.Bank{{Rules: slices.Repeat([]filter.Rule{right}, 33)}}
	for _, kinds := range []int{0, -1, 8, 9, 16, 1<<32 + 1, math.MinInt, math.MaxInt} {
		wrong := filter.Rule{Kinds: kinds, In: true}
		l = append(l,
			filter.Bank{Rules: []filter.Rule{wrong}},
			filter.Bank{Rules: []filter.Rule{right, wrong}, Else: true},
			filter.Bank{Rules: append(slices.Repeat([]filter.Rule{right}, 31), wrong)},
		)
	}
	return l
}

// wrongRooms are numbers of places that neither a queue nor a fifo may have.
func wrongRooms() []int {
	return []int{-1, -2, -64, 65, 66, 128, 256, 1 << 32, 1<<32 + 1, math.MinInt32, math.MaxInt32, math.MinInt, math.MinInt + 1, math.MaxInt}
}

func classic(id uint32) api.Frame {
	return api.Frame{Kind: api.Classic, ID: id}
}

func long(id uint32) api.Frame {
	return api.Frame{Kind: api.XL, ID: id, SDT: 3, Data: []byte{byte(id), 7}}
}

// frames are some of all kinds that may be, with each field and the least and the most Data; of odd IDs and of even ones, several of one key.
func frames() []api.Frame {
	one := []byte{1}
	return []api.Frame{
		{Kind: api.Classic},
		{Kind: api.Classic, Data: one},
		{Kind: api.Classic, ID: 2047, Data: []byte{1, 2, 3, 4, 5, 6, 7, 8}},
		{Kind: api.Classic, ID: 1365, RTR: true},
		{Kind: api.Classic, ID: 1<<29 - 1, Ext: true, Data: one},
		{Kind: api.Classic, ID: 1 << 28, Ext: true, RTR: true},
		{Kind: api.FD},
		{Kind: api.FD, ID: 2047, BRS: true, Data: make([]byte, 64)},
		{Kind: api.FD, ID: 682, ESI: true, Data: one},
		{Kind: api.XL, Data: one},
		{Kind: api.XL, Data: []byte{2, 2}},
		{Kind: api.XL, ID: 2047, SEC: true, SDT: 255, VCID: 255, AF: math.MaxUint32, Data: make([]byte, api.MaxData)},
		{Kind: api.XL, ID: 5, SDT: 3, VCID: 7, AF: 0x12345678, Data: []byte{9, 9}},
	}
}

// wrong are frames that may not be.
func wrong() []api.Frame {
	one := []byte{1}
	return []api.Frame{
		{},
		{ID: 5, Data: one},
		{Kind: 4, Data: one},
		{Kind: -1},
		{Kind: 1<<32 + 1},
		{Kind: 1<<32 + api.XL, Data: one},
		{Kind: math.MinInt},
		{Kind: math.MaxInt, Data: one},
		{Kind: api.Classic, ID: 1 << 11},
		{Kind: api.Classic, Ext: true, ID: 1 << 29},
		{Kind: api.Classic, RTR: true, Data: one},
		{Kind: api.Classic, Data: make([]byte, 9)},
		{Kind: api.Classic, BRS: true},
		{Kind: api.FD, ID: 1 << 11},
		{Kind: api.FD, RTR: true},
		{Kind: api.FD, Data: make([]byte, 9)},
		{Kind: api.FD, Data: make([]byte, 65)},
		{Kind: api.XL},
		{Kind: api.XL, Data: []byte{}},
		{Kind: api.XL, ID: 5},
		{Kind: api.XL, Data: make([]byte, api.MaxData+1)},
		{Kind: api.XL, ID: 1 << 11, Data: one},
		{Kind: api.XL, ID: math.MaxUint32, Data: one},
		{Kind: api.XL, Ext: true, Data: one},
		{Kind: api.XL, BRS: true, Data: one},
	}
}

func pick[T any](r *rand.Rand, l []T) T {
	return l[r.Intn(len(l))]
}
