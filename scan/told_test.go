package scan_test

import (
	"bytes"
	"slices"
	"strconv"
	"strings"
	"testing"

	"omnibus/api"
	"omnibus/classic"
	"omnibus/crc"
	"omnibus/fd"
	"omnibus/frame"
	"omnibus/scan"
	"omnibus/xl"
)

// row is a text's bits; blanks only part them.
func row(s string) []byte {
	var l []byte
	for _, c := range s {
		if c != ' ' {
			l = append(l, byte(c-'0'))
		}
	}
	return l
}

// num is the number that bits are, the highest first.
func num(l []byte) int {
	n := 0
	for _, b := range l {
		n = n<<1 | int(b)
	}
	return n
}

// tallies are those of the numbers from 0 to 7.
var tallies = []string{"0000", "0011", "0110", "0101", "1100", "1111", "1010", "1001"}

// sizes are those of an FD frame's Data, each at its code.
var sizes = []int{0, 1, 2, 3, 4, 5, 6, 7, 8, 12, 16, 20, 24, 32, 48, 64}

// reader tells the chapter's words a second time: it goes through a whole row, one field behind the other, and leaves by a panic of a Status where that is known.
type reader struct {
	raw    []byte
	at     int
	slot   int
	stuffs []int // the places of all stuff bits
	xl     bool
}

func (r *reader) one() byte {
	if r.at == len(r.raw) {
		panic(scan.Status{})
	}
	r.at++
	return r.raw[r.at-1]
}

func (r *reader) must(ok bool, e api.Errno) {
	if !ok {
		panic(scan.Status{Kind: scan.Bad, Err: e})
	}
}

// these are bits that must be such, with no stuff bits.
func (r *reader) these(s string) {
	for _, b := range row(s) {
		r.must(r.one() == b, api.ErrForm)
	}
}

func (r *reader) stuffBit() {
	r.stuffs = append(r.stuffs, r.at)
	b := r.one()
	r.must(b != r.raw[r.at-2], api.ErrStuff)
}

// stuffed are so many bits with stuff bits behind five alike.
func (r *reader) stuffed(n int) []byte {
	var l []byte
	for range n {
		if r.at >= 5 && (num(r.raw[r.at-5:r.at]) == 0 || num(r.raw[r.at-5:r.at]) == 31) {
			r.stuffBit()
		}
		l = append(l, r.one())
	}
	return l
}

// spaced is so many bits with a stuff bit behind each so many; from is how many of them were there before.
func (r *reader) spaced(from, n, every int) []byte {
	var l []byte
	for i := from; i < from+n; i++ {
		if i > 0 && i%every == 0 {
			r.stuffBit()
		}
		l = append(l, r.one())
	}
	return l
}

// fits says whether a row ends with its sum; Sum is asked for the whole row at once.
func fits(kind int, l []byte) bool {
	ahead := len(l) - crc.Size(kind)
	sum, e := crc.Sum(kind, l[:ahead])
	return e == api.OK && uint64(num(l[ahead:])) == sum
}

// frame goes through the row of a frame.
func (r *reader) frame() api.Frame {
	l := r.stuffed(1)
	r.must(l[0] == 0, api.ErrForm)
	l = append(l, r.stuffed(13)...)
	id, rtr := uint32(num(l[1:12])), l[12] == 1
	if l[13] == 1 {
		r.must(rtr, api.ErrForm)
		l = append(l, r.stuffed(19)...)
		for range 2 {
			l = append(l, r.stuffed(1)...)
			r.must(l[len(l)-1] == 0, api.ErrForm)
		}
		return r.classic(l, api.Frame{Kind: api.Classic, ID: id<<18 | uint32(num(l[14:32])), Ext: true, RTR: l[32] == 1})
	}
	l = append(l, r.stuffed(1)...)
	if l[14] == 0 {
		return r.classic(l, api.Frame{Kind: api.Classic, ID: id, RTR: rtr})
	}
	r.must(!rtr, api.ErrForm)
	l = append(l, r.stuffed(1)...)
	if l[15] == 0 {
		return r.fd(api.Frame{Kind: api.FD, ID: id})
	}
	if !r.xl {
		panic(scan.Status{Kind: scan.Alien})
	}
	l = append(l, r.stuffed(1)...)
	r.must(l[16] == 0, api.ErrForm)
	return r.long(l, api.Frame{Kind: api.XL, ID: id})
}

func (r *reader) classic(l []byte, f api.Frame) api.Frame {
	code := r.stuffed(4)
	size := num(code)
	r.must(size <= 8 && !(f.RTR && size > 0), api.ErrForm)
	l = append(l, code...)
	data := r.stuffed(8 * size)
	l = slices.Concat(l, data, r.stuffed(15))
	f.Data = packed(data)
	r.tail(fits(crc.C15, l))
	return f
}

func (r *reader) fd(f api.Frame) api.Frame {
	l := r.stuffed(6)
	f.BRS, f.ESI = l[0] == 1, l[1] == 1
	size := sizes[num(l[2:])]
	f.Data = packed(r.stuffed(8 * size))
	count, raw, kind := len(r.stuffs), r.raw[:r.at], crc.C17
	if size > 16 {
		kind = crc.C21
	}
	r.stuffBit()
	l = r.spaced(0, 4+crc.Size(kind), 4)
	r.tail(bytes.Equal(l[:4], row(tallies[count%8])) && fits(kind, slices.Concat(raw, l)))
	return f
}

func (r *reader) long(head []byte, f api.Frame) api.Frame {
	count := len(r.stuffs)
	r.these("1001")
	l := r.spaced(0, 77, 8)
	f.SDT, f.SEC, f.VCID, f.AF = uint8(num(l[:8])), l[8] == 1, uint8(num(l[37:45])), uint32(num(l[45:]))
	right := bytes.Equal(l[20:24], row(tallies[count%8])) && fits(crc.P13, slices.Concat(head, l[:37]))
	l = append(l, r.spaced(77, 8*num(l[9:20])+8+32, 8)...)
	f.Data = packed(l[77 : len(l)-32])
	r.these("0110")
	r.tail(right && fits(crc.F32, l))
	return f
}

// packed are bits' bytes.
func packed(l []byte) []byte {
	var b []byte
	for ; len(l) > 0; l = l[8:] {
		b = append(b, byte(num(l[:8])))
	}
	return b
}

func (r *reader) tail(right bool) {
	r.these("1")
	if right {
		r.slot = r.at
	}
	r.one()
	b := r.one()
	r.must(right, api.ErrCrc)
	r.must(b == 1, api.ErrForm)
	r.these("111111")
}

// told is what each beginning of a row is: of no bits, of one, and so on. It answers the places of the stuff bits, too.
func told(raw []byte, xl bool) ([]scan.Status, []int) {
	r := reader{raw: raw, slot: -1, xl: xl}
	last := r.run()
	all := make([]scan.Status, len(raw)+1)
	if r.slot >= 0 {
		all[r.slot].Kind = scan.Slot
	}
	if last.Kind != scan.More {
		for i := r.at; i < len(all); i++ {
			all[i] = last
		}
	}
	return all, r.stuffs
}

func (r *reader) run() (last scan.Status) {
	defer func() {
		if p := recover(); p != nil {
			last = p.(scan.Status)
		}
	}()
	return scan.Status{Kind: scan.Done, F: r.frame()}
}

func same(a, b scan.Status) bool {
	return a.Kind == b.Kind && a.Err == b.Err && frame.Same(a.F, b.F)
}

// seen holds what a machine tells of each beginning of a row, and Scan of all of it, against what they must be.
func seen(t *testing.T, raw []byte, xl bool, want []scan.Status) {
	t.Helper()
	m := scan.New(xl)
	for i, b := range raw {
		if s, e := m.Status(); e != api.OK || !same(s, want[i]) || m.Seen() != i {
			t.Fatalf("%d bits of %v, %v: %+v, %d, wanted %+v", i, raw, xl, s, e, want[i])
		}
		if s, e := m.See(b); e != api.OK || !same(s, want[i+1]) {
			t.Fatalf("%d bits of %v, %v: %+v, %d, wanted %+v", i+1, raw, xl, s, e, want[i+1])
		}
	}
	if s, e := scan.Scan(raw, xl); e != api.OK || !same(s, want[len(raw)]) {
		t.Fatalf("%v, %v: %+v, %d, wanted %+v", raw, xl, s, e, want[len(raw)])
	}
}

// agrees holds a row against the chapter's words told a second time, for one that knows XL frames and one that doesn't.
func agrees(t *testing.T, raw []byte) {
	t.Helper()
	for _, xl := range []bool{true, false} {
		want, _ := told(raw, xl)
		seen(t, raw, xl, want)
	}
}

// turns holds that a row is all right ahead of its bit of some place, and Bad from there on.
func turns(t *testing.T, raw []byte, at int, e api.Errno) {
	t.Helper()
	m := scan.New(true)
	for i, b := range raw {
		s, f := m.See(b)
		if f != api.OK || i < at && s.Kind != scan.More && s.Kind != scan.Slot || i >= at && !same(s, scan.Status{Kind: scan.Bad, Err: e}) {
			t.Fatalf("bit %d of %v: %+v, %d, wanted Bad, %d from bit %d on", i, raw, s, f, e, at)
		}
	}
	if m.Seen() <= at {
		t.Fatalf("%v has no bit %d", raw, at)
	}
}

// wire is a frame on the wire, by layers 6 to 8.
func wire(t testing.TB, f api.Frame) api.Wire {
	t.Helper()
	put := []func(api.Frame) (api.Wire, api.Errno){api.Classic: classic.Wire, api.FD: fd.Wire, api.XL: xl.Wire}
	w, e := put[f.Kind](f)
	if e != api.OK {
		t.Fatalf("%+v: %d", f, e)
	}
	return w
}

// draw answers numbers without a short rule in them, the same ones in each run.
func draw() func() uint32 {
	x := uint64(1)
	return func() uint32 {
		x = x*6364136223846793005 + 1442695040888963407
		return uint32(x >> 32)
	}
}

// mixed are bytes without a short rule in them; some have long runs of bits alike.
func mixed(next func() uint32, size int) []byte {
	l := make([]byte, size)
	rule := next() % 4
	for i := range l {
		l[i] = []byte{byte(next()), 0, 255, byte(next() & next())}[rule]
	}
	return l
}

// ids are some identifiers of eleven bits, with long runs of bits alike or without.
func ids() []uint32 {
	return []uint32{0, 1, 5, 7, 31, 32, 120, 1024, 1365, 682, 1984, 2016, 2046, 2047}
}

// shorts are frames of all shapes, none of them long.
func shorts() []api.Frame {
	var l []api.Frame
	next := draw()
	for _, id := range ids() {
		for n := range 9 {
			l = append(l, api.Frame{Kind: api.Classic, ID: id, Data: mixed(next, n)}, api.Frame{Kind: api.Classic, ID: id<<18 | next()>>14, Ext: true, Data: mixed(next, n)})
		}
		l = append(l, api.Frame{Kind: api.Classic, ID: id, RTR: true}, api.Frame{Kind: api.Classic, ID: id << 18, Ext: true, RTR: true}, api.Frame{Kind: api.Classic, ID: (id+1)<<18 - 1, Ext: true, RTR: true})
		for _, n := range sizes {
			l = append(l, api.Frame{Kind: api.FD, ID: id, BRS: next()%2 == 0, ESI: next()%2 == 0, Data: mixed(next, n)})
		}
		for _, n := range []int{1, 2, 3, 7, 8, 9, 31, 64} {
			l = append(l, api.Frame{Kind: api.XL, ID: id, SEC: next()%2 == 0, SDT: uint8(next()), VCID: uint8(next()), AF: next(), Data: mixed(next, n)})
		}
		l = append(l, api.Frame{Kind: api.XL, ID: id, Data: []byte{0}}, api.Frame{Kind: api.XL, ID: id, SEC: true, SDT: 255, VCID: 255, AF: 1<<32 - 1, Data: []byte{255, 255}})
	}
	return l
}

// longs are XL frames of the greater sizes.
func longs() []api.Frame {
	var l []api.Frame
	next := draw()
	for _, n := range []int{255, 256, 257, 1023, 1024, 1025, 2047, 2048} {
		l = append(l, api.Frame{Kind: api.XL, ID: next() >> 21, SEC: true, SDT: uint8(n), VCID: 7, AF: next(), Data: mixed(next, n)})
	}
	return append(l, api.Frame{Kind: api.XL, Data: make([]byte, 2048)}, api.Frame{Kind: api.XL, ID: 2047, Data: bytes.Repeat([]byte{255}, 2048)})
}

// bin is a number's digits to base 2, as many as size.
func bin(n uint64, size int) string {
	s := strconv.FormatUint(n, 2)
	return strings.Repeat("0", size-len(s)) + s
}
