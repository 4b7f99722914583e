package queue_test

import (
	"math/rand"
	"slices"
	"strconv"
	"strings"
	"testing"

	"omnibus/api"
	"omnibus/frame"
	"omnibus/queue"
)

// model tells the chapter's words a second time: what waits stands as it was put, and order is looked for when it is asked.
type model struct {
	room, puts int
	waiting    []keyed
}

// keyed is an item, and its frame's key.
type keyed struct {
	queue.Item
	key string
}

// key is a frame's key as 34 digits, field by field as layer 10's chapter tells it.
func key(f api.Frame) string {
	if f.Ext {
		id := digits(f.ID, 29)
		return id[:11] + "11" + id[11:] + digit(f.RTR) + "00"
	}
	return digits(f.ID, 11) + digit(f.RTR) + "0" + digit(f.Kind != api.Classic) + digit(f.Kind == api.XL) + strings.Repeat("0", 19)
}

func digits(n uint32, size int) string {
	s := strconv.FormatUint(uint64(n), 2)
	return strings.Repeat("0", size-len(s)) + s
}

func digit(b bool) string {
	if b {
		return "1"
	}
	return "0"
}

// first is where the first one in order stands, -1 if none waits.
func (m *model) first() int {
	at := -1
	for i, x := range m.waiting {
		if at < 0 || x.key < m.waiting[at].key || x.key == m.waiting[at].key && x.No < m.waiting[at].No {
			at = i
		}
	}
	return at
}

func (m *model) put(f api.Frame) (int, api.Errno) {
	if frame.Check(f) != api.OK {
		return 0, api.ErrArg
	}
	if len(m.waiting) == m.room {
		return 0, api.ErrFull
	}
	m.puts++
	m.waiting = append(m.waiting, keyed{queue.Item{No: m.puts, F: frame.Copy(f)}, key(f)})
	return m.puts, api.OK
}

func (m *model) head() (queue.Item, api.Errno) {
	at := m.first()
	if at < 0 {
		return queue.Item{}, api.ErrNone
	}
	return m.waiting[at].Item, api.OK
}

func (m *model) take() (queue.Item, api.Errno) {
	x, e := m.head()
	m.cancel(x.No)
	return x, e
}

func (m *model) cancel(no int) api.Errno {
	for i, x := range m.waiting {
		if x.No == no {
			m.waiting = append(m.waiting[:i], m.waiting[i+1:]...)
			return api.OK
		}
	}
	return api.ErrNone
}

func (m *model) all() []queue.Item {
	left := &model{waiting: slices.Clone(m.waiting)}
	var l []queue.Item
	for range m.waiting {
		x, _ := left.take()
		l = append(l, x)
	}
	return l
}

func sameItem(a, b queue.Item) bool {
	return a.No == b.No && frame.Same(a.F, b.F)
}

func sameItems(a, b []queue.Item) bool {
	return slices.EqualFunc(a, b, sameItem)
}

// both are a queue and its model, which must answer alike.
type both struct {
	t     *testing.T
	q     *queue.Queue
	m     *model
	calls int
}

func pair(t *testing.T, room int) *both {
	t.Helper()
	return &both{t: t, q: queueOf(t, room), m: &model{room: room}}
}

// alike asks all that changes nothing.
func (x *both) alike() {
	x.t.Helper()
	x.calls++
	if n := x.q.Len(); n != len(x.m.waiting) {
		x.t.Fatalf("call %d: %d wait, wanted %d", x.calls, n, len(x.m.waiting))
	}
	if l, want := x.q.All(), x.m.all(); !sameItems(l, want) {
		x.t.Fatalf("call %d: All: %+v, wanted %+v", x.calls, l, want)
	}
	is, e := x.q.Head()
	want, d := x.m.head()
	x.item("Head", is, e, want, d)
}

func (x *both) item(call string, is queue.Item, e api.Errno, want queue.Item, d api.Errno) {
	x.t.Helper()
	if !sameItem(is, want) || e != d {
		x.t.Fatalf("call %d: %s: %+v, %d, wanted %+v, %d", x.calls, call, is, e, want, d)
	}
}

func (x *both) put(f api.Frame) int {
	x.t.Helper()
	no, e := x.q.Put(f)
	if want, d := x.m.put(f); no != want || e != d {
		x.t.Fatalf("call %d: Put(%+v): %d, %d, wanted %d, %d", x.calls, f, no, e, want, d)
	}
	x.alike()
	return no
}

func (x *both) take() queue.Item {
	x.t.Helper()
	is, e := x.q.Take()
	want, d := x.m.take()
	x.item("Take", is, e, want, d)
	x.alike()
	return is
}

func (x *both) cancel(no int) {
	x.t.Helper()
	e := x.q.Cancel(no)
	if d := x.m.cancel(no); e != d {
		x.t.Fatalf("call %d: Cancel(%d): %d, wanted %d", x.calls, no, e, d)
	}
	x.alike()
}

func queueOf(t *testing.T, room int) *queue.Queue {
	t.Helper()
	q, e := queue.New(room)
	if q == nil || e != api.OK {
		t.Fatalf("New(%d): %v, %d", room, q, e)
	}
	return q
}

func put(t *testing.T, q *queue.Queue, f api.Frame) int {
	t.Helper()
	no, e := q.Put(f)
	if e != api.OK {
		t.Fatalf("Put(%+v): %d, %d", f, no, e)
	}
	return no
}

// numbers are those of some items, as they stand.
func numbers(l []queue.Item) []int {
	var n []int
	for _, x := range l {
		n = append(n, x.No)
	}
	return n
}

// taken are all that wait, one by one. It ends with a broken queue, too.
func taken(t *testing.T, q *queue.Queue) []queue.Item {
	t.Helper()
	var l []queue.Item
	for range q.Len() {
		x, e := q.Take()
		if e != api.OK {
			t.Fatalf("Take: %+v, %d", x, e)
		}
		l = append(l, x)
	}
	if x, e := q.Take(); x.No != 0 || !frame.Same(x.F, api.Frame{}) || e != api.ErrNone || q.Len() != 0 {
		t.Fatalf("Take behind all: %+v, %d", x, e)
	}
	return l
}

func classic(id uint32) api.Frame {
	return api.Frame{Kind: api.Classic, ID: id}
}

// ofOneID are frames of one ID's eleven bits, as they stand in order. No two have one key.
func ofOneID(id uint32) []api.Frame {
	return []api.Frame{
		{Kind: api.Classic, ID: id, Data: []byte{255}},
		{Kind: api.FD, ID: id, BRS: true, ESI: true, Data: []byte{255, 255}},
		{Kind: api.XL, ID: id, SEC: true, SDT: 255, VCID: 255, AF: 1<<32 - 1, Data: []byte{255, 255, 255}},
		{Kind: api.Classic, ID: id, RTR: true},
		{Kind: api.Classic, Ext: true, ID: id << 18},
		{Kind: api.Classic, Ext: true, ID: id << 18, RTR: true},
		{Kind: api.Classic, Ext: true, ID: id<<18 | 1},
		{Kind: api.Classic, Ext: true, ID: (id+1)<<18 - 1, RTR: true},
	}
}

// ofOneKey are frames of one key that differ in all that no key has.
func ofOneKey(id uint32) [][]api.Frame {
	return [][]api.Frame{
		{{Kind: api.Classic, ID: id, Data: []byte{2}}, {Kind: api.Classic, ID: id}, {Kind: api.Classic, ID: id, Data: []byte{1, 2, 3, 4, 5, 6, 7, 8}}, {Kind: api.Classic, ID: id, Data: []byte{1}}},
		{{Kind: api.FD, ID: id, ESI: true}, {Kind: api.FD, ID: id, BRS: true, Data: make([]byte, 64)}, {Kind: api.FD, ID: id}},
		{{Kind: api.XL, ID: id, SDT: 9, Data: []byte{9}}, {Kind: api.XL, ID: id, AF: 7, Data: []byte{0}}, {Kind: api.XL, ID: id, VCID: 1, Data: make([]byte, 2048)}, {Kind: api.XL, ID: id, SEC: true, Data: []byte{1, 1}}},
		{{Kind: api.Classic, Ext: true, ID: id << 18, Data: []byte{5}}, {Kind: api.Classic, Ext: true, ID: id << 18}},
	}
}

// wrong are frames that may not be.
func wrong() []api.Frame {
	one := []byte{1}
	return []api.Frame{
		{},
		{ID: 5, Data: one},
		{Kind: 4, Data: one},
		{Kind: -1},
		{Kind: 1<<32 + 1},
		{Kind: api.Classic, ID: 1 << 11},
		{Kind: api.Classic, ID: 1<<32 - 1},
		{Kind: api.Classic, Ext: true, ID: 1 << 29},
		{Kind: api.Classic, RTR: true, Data: one},
		{Kind: api.Classic, Data: make([]byte, 9)},
		{Kind: api.Classic, BRS: true},
		{Kind: api.Classic, SDT: 1},
		{Kind: api.FD, ID: 1 << 11},
		{Kind: api.FD, Ext: true},
		{Kind: api.FD, RTR: true},
		{Kind: api.FD, Data: make([]byte, 9)},
		{Kind: api.FD, Data: make([]byte, 65)},
		{Kind: api.FD, AF: 1},
		{Kind: api.XL},
		{Kind: api.XL, Data: []byte{}},
		{Kind: api.XL, Data: make([]byte, api.MaxData+1)},
		{Kind: api.XL, ID: 1 << 11, Data: one},
		{Kind: api.XL, BRS: true, Data: one},
	}
}

// some is any frame of a few keys.
func some(r *rand.Rand) api.Frame {
	id := uint32(r.Intn(3))
	if r.Intn(2) == 0 {
		return pick(r, ofOneID(id))
	}
	return pick(r, pick(r, ofOneKey(id)))
}

func pick[T any](r *rand.Rand, l []T) T {
	return l[r.Intn(len(l))]
}
