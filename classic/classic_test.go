package classic_test

import (
	"bytes"
	"math"
	"slices"
	"strconv"
	"strings"
	"testing"

	"omnibus/api"
	"omnibus/classic"
)

// row is a text's bits, told without the packages that are tested; blanks only part them.
func row(s string) []byte {
	var l []byte
	for _, c := range s {
		if c != ' ' {
			l = append(l, byte(c-'0'))
		}
	}
	return l
}

// bin is a number's digits to base 2, as many as size.
func bin(n uint32, size int) string {
	s := strconv.FormatUint(uint64(n), 2)
	return strings.Repeat("0", size-len(s)) + s
}

// headOf is what arbitrates ahead of all stuffing, by the chapter's words.
func headOf(f api.Frame) string {
	rtr := "0"
	if f.RTR {
		rtr = "1"
	}
	if !f.Ext {
		return "0" + bin(f.ID, 11) + rtr + "00"
	}
	id := bin(f.ID, 29)
	return "0" + id[:11] + "11" + id[11:] + rtr + "00"
}

// summed is bits with their C15 behind, reckoned as a division of the whole row by 2^15 and the polynomial.
func summed(s string) string {
	rest := row(s + strings.Repeat("0", 15))
	poly := row("1" + bin(0x4599, 15))
	for i := range len(s) {
		if rest[i] == 1 {
			for j, b := range poly {
				rest[i+j] ^= b
			}
		}
	}
	for _, b := range rest[len(s):] {
		s += bin(uint32(b), 1)
	}
	return s
}

// stuffed is a row with a stuff bit behind each five alike, but not behind the last bit.
func stuffed(s string) string {
	raw := ""
	for _, c := range s {
		if strings.HasSuffix(raw, "00000") {
			raw += "1"
		} else if strings.HasSuffix(raw, "11111") {
			raw += "0"
		}
		raw += string(c)
	}
	return raw
}

// bodyOf and wireOf are what a frame that may be is told by.
func bodyOf(f api.Frame) string {
	s := headOf(f) + bin(uint32(len(f.Data)), 4)
	for _, b := range f.Data {
		s += bin(uint32(b), 8)
	}
	return summed(s)
}

func wireOf(f api.Frame) api.Wire {
	raw := stuffed(bodyOf(f))
	return api.Wire{Bits: row(raw + "1 1 1 1111111"), Arb: len(stuffed(headOf(f))), Ack: len(raw) + 1}
}

// draw answers numbers without a short rule in them, the same ones in each run.
func draw() func() uint32 {
	x := uint64(1)
	return func() uint32 {
		x = x*6364136223846793005 + 1442695040888963407
		return uint32(x >> 32)
	}
}

// datas are lists of all sizes that a frame may have, some with long runs, some without.
func datas() [][]byte {
	lists := [][]byte{nil, {}}
	next := draw()
	for n := 1; n <= 8; n++ {
		mixed := make([]byte, n)
		for i := range mixed {
			mixed[i] = byte(next())
		}
		lists = append(lists, mixed)
		for _, b := range []byte{0, 255, 0x0f, 0xf8, 0x3c} {
			lists = append(lists, bytes.Repeat([]byte{b}, n))
		}
	}
	return lists
}

// ids are some identifiers of so many bits: each bit alone, each bit left out, and all bits from one on.
func ids(size int) []uint32 {
	most := uint32(1)<<size - 1
	l := []uint32{0, most, most / 3, most - most/3, 1365, 682}
	for i := range size {
		l = append(l, 1<<i, most^1<<i, most>>i, most>>i<<i)
	}
	return l
}

// frames are some of all shapes that may be.
func frames() []api.Frame {
	var l []api.Frame
	for _, ext := range []bool{false, true} {
		size := 11
		if ext {
			size = 29
		}
		for _, id := range ids(size) {
			l = append(l, api.Frame{Kind: api.Classic, ID: id, Ext: ext, RTR: true})
			for _, d := range datas() {
				l = append(l, api.Frame{Kind: api.Classic, ID: id, Ext: ext, Data: d})
			}
		}
	}
	return l
}

// noFrames are some that may not be, and some that may, but are of other kinds.
func noFrames() []api.Frame {
	l := []api.Frame{
		{}, {ID: 5, Data: []byte{1}},
		{Kind: api.FD}, {Kind: api.FD, ID: 5, BRS: true, Data: make([]byte, 12)}, {Kind: api.FD, Data: []byte{1, 2}},
		{Kind: api.XL, Data: []byte{1}}, {Kind: api.XL, Data: make([]byte, 2048)}, {Kind: api.XL},
	}
	for _, kind := range []int{4, -1, 255, 257, 1<<32 + 1, math.MaxInt, math.MinInt} {
		l = append(l, api.Frame{Kind: kind}, api.Frame{Kind: kind, ID: 5, Data: []byte{1}})
	}
	for _, id := range []uint32{2048, 2049, 1 << 16, 1<<29 - 1, 1 << 29, 1<<32 - 1} {
		l = append(l, api.Frame{Kind: api.Classic, ID: id}, api.Frame{Kind: api.Classic, ID: id, RTR: true})
	}
	for _, id := range []uint32{1 << 29, 1<<29 + 1, 1 << 31, 1<<32 - 1} {
		l = append(l, api.Frame{Kind: api.Classic, ID: id, Ext: true}, api.Frame{Kind: api.Classic, ID: id, Ext: true, RTR: true})
	}
	for _, n := range []int{9, 10, 12, 15, 16, 64, 2048, api.MaxBits, 1 << 20} {
		l = append(l, api.Frame{Kind: api.Classic, Data: make([]byte, n)}, api.Frame{Kind: api.Classic, Ext: true, Data: make([]byte, n)})
	}
	for n := 1; n < 10; n++ {
		l = append(l, api.Frame{Kind: api.Classic, RTR: true, Data: make([]byte, n)})
	}
	return append(l, alien()...)
}

// alien are frames with a field each that a Classic frame hasn't.
func alien() []api.Frame {
	plain := api.Frame{Kind: api.Classic, ID: 5, Data: []byte{1}}
	var l []api.Frame
	for _, set := range []func(*api.Frame){
		func(f *api.Frame) { f.BRS = true },
		func(f *api.Frame) { f.ESI = true },
		func(f *api.Frame) { f.SEC = true },
		func(f *api.Frame) { f.SDT = 1 },
		func(f *api.Frame) { f.VCID = 128 },
		func(f *api.Frame) { f.AF = 1 << 31 },
	} {
		f := plain
		set(&f)
		l = append(l, f)
	}
	return l
}

// P6.1: Body

func TestBody(t *testing.T) {
	for _, x := range []struct {
		f    api.Frame
		want string
	}{
		{api.Frame{Kind: api.Classic, ID: 1365}, "0 10101010101 0 0 0 0000 110011101001100"},
		{api.Frame{Kind: api.Classic}, "0 00000000000 0 0 0 0000 000000000000000"},
		{api.Frame{Kind: api.Classic, ID: 1, RTR: true}, "0 00000000001 1 0 0 0000 101000111010110"},
		{api.Frame{Kind: api.Classic, ID: 1<<18 | 2, Ext: true}, "0 00000000001 1 1 000000000000000010 0 0 0 0000 011000001101111"},
		{api.Frame{Kind: api.Classic, ID: 1<<28 | 1, Ext: true, RTR: true}, "0 10000000000 1 1 000000000000000001 1 0 0 0000 111011011001111"},
		{api.Frame{Kind: api.Classic, ID: 2, Data: []byte{0xa1}}, "0 00000000010 0 0 0 0001 10100001 000100010010110"},
		{api.Frame{Kind: api.Classic, ID: 0x123, Data: []byte{1, 2, 3, 4, 5, 6, 7, 8}}, "0 00100100011 0 0 0 1000 00000001 00000010 00000011 00000100 00000101 00000110 00000111 00001000 110010011101111"},
	} {
		if l, e := classic.Body(x.f); e != api.OK || !bytes.Equal(l, row(x.want)) {
			t.Errorf("%+v: %v, %d, wanted %s", x.f, l, e, x.want)
		}
	}
}

func TestBodyOfAllShapes(t *testing.T) {
	for _, f := range frames() {
		if l, e := classic.Body(f); e != api.OK || !bytes.Equal(l, row(bodyOf(f))) {
			t.Fatalf("%+v: %v, %d, wanted %s", f, l, e, bodyOf(f))
		}
	}
}

func TestBodyOfEachShorterID(t *testing.T) {
	for id := range uint32(2048) {
		for _, rtr := range []bool{false, true} {
			f := api.Frame{Kind: api.Classic, ID: id, RTR: rtr}
			if l, e := classic.Body(f); e != api.OK || !bytes.Equal(l, row(bodyOf(f))) {
				t.Fatalf("%+v: %v, %d, wanted %s", f, l, e, bodyOf(f))
			}
		}
	}
}

func TestBodyHasSoManyBits(t *testing.T) {
	for _, f := range frames() {
		want := 34 + 8*len(f.Data)
		if f.Ext {
			want += 20
		}
		if l, e := classic.Body(f); e != api.OK || len(l) != want {
			t.Errorf("%+v: %d bits, %d, wanted %d", f, len(l), e, want)
		}
	}
}

func TestBodyRefuses(t *testing.T) {
	for i, f := range noFrames() {
		if l, e := classic.Body(f); e != api.ErrArg || len(l) != 0 {
			t.Errorf("frame %d, kind %d: %d bits, %d", i, f.Kind, len(l), e)
		}
	}
}

// P6.1: Most

func TestMost(t *testing.T) {
	// 54 bits ahead of all stuffing have 13 stuff bits at most, and so on.
	for size, want := range []int{54 + 13 + 10, 62 + 15 + 10, 70 + 17 + 10, 78 + 19 + 10, 86 + 21 + 10, 94 + 23 + 10, 102 + 25 + 10, 110 + 27 + 10, 118 + 29 + 10} {
		if n, e := classic.Most(size); n != want || e != api.OK {
			t.Errorf("%d bytes: %d, %d, wanted %d", size, n, e, want)
		}
	}
}

func TestMostRefuses(t *testing.T) {
	for _, size := range []int{-1, -2, -8, 9, 10, 12, 64, 2048, 1<<32 + 1, -1 << 32, math.MaxInt, math.MinInt} {
		if n, e := classic.Most(size); n != 0 || e != api.ErrArg {
			t.Errorf("%d bytes: %d, %d", size, n, e)
		}
	}
}

func TestNoFrameHasMoreThanMost(t *testing.T) {
	for _, f := range frames() {
		w, e := classic.Wire(f)
		most, g := classic.Most(len(f.Data))
		if e != api.OK || g != api.OK || len(w.Bits) > most {
			t.Errorf("%+v: %d bits, at most %d, %d, %d", f, len(w.Bits), most, e, g)
		}
	}
}

// P6.2

// wired holds a frame on the wire against what it must be.
func wired(t *testing.T, f api.Frame, want api.Wire) {
	t.Helper()
	w, e := classic.Wire(f)
	if e != api.OK || !bytes.Equal(w.Bits, want.Bits) || w.Arb != want.Arb || w.Ack != want.Ack {
		t.Fatalf("%+v: %v, %d, wanted %v", f, w, e, want)
	}
}

func TestWire(t *testing.T) {
	for _, x := range []struct {
		f        api.Frame
		want     string
		arb, ack int
	}{
		{api.Frame{Kind: api.Classic, ID: 1365}, "0 10101010101 000 00 1 00 110011101001100 1 1 1 1111111", 15, 36},
		{api.Frame{Kind: api.Classic, ID: 1365, RTR: true}, "0 10101010101 100 000 1 0 001010010001001 1 1 1 1111111", 15, 36},
		// A stuff bit that is due behind the last bit that arbitrates isn't among these.
		{api.Frame{Kind: api.Classic}, "0 0000 1 00000 1 00 000 1 0000 0 1 00000 1 00000 1 0000 1 1 1 1111111", 17, 41},
		{api.Frame{Kind: api.Classic, ID: 2047}, "0 11111 0 11111 0 1 000 00 1 00 010011100101111 1 1 1 1111111", 17, 38},
		{api.Frame{Kind: api.Classic, ID: 1<<28 | 5, Ext: true, Data: []byte{0xa5}}, "0 10000 0 1 00000 11 1 00000 1 00000 1 00000 11 01 000 00 1 01 10100101 011010101010000 1 1 1 1111111", 40, 69},
	} {
		wired(t, x.f, api.Wire{Bits: row(x.want), Arb: x.arb, Ack: x.ack})
	}
}

func TestWireOfAllShapes(t *testing.T) {
	for _, f := range frames() {
		wired(t, f, wireOf(f))
	}
}

func TestWireOfEachShorterID(t *testing.T) {
	for id := range uint32(2048) {
		for _, rtr := range []bool{false, true} {
			f := api.Frame{Kind: api.Classic, ID: id, RTR: rtr}
			wired(t, f, wireOf(f))
		}
	}
}

func TestTheSlotIsTheNinthFromTheEnd(t *testing.T) {
	for _, f := range frames() {
		w, e := classic.Wire(f)
		if e != api.OK || w.Ack != len(w.Bits)-9 || !bytes.HasSuffix(w.Bits, bytes.Repeat([]byte{1}, 10)) {
			t.Errorf("%+v: %v, %d", f, w, e)
		}
	}
}

func TestWireRefuses(t *testing.T) {
	for i, f := range noFrames() {
		if w, e := classic.Wire(f); e != api.ErrArg || len(w.Bits) != 0 || w.Arb != 0 || w.Ack != 0 {
			t.Errorf("frame %d, kind %d: %d bits, %d, %d, %d", i, f.Kind, len(w.Bits), w.Arb, w.Ack, e)
		}
	}
}

// P6.3

func TestNeverSixAlikeAheadOfTheDelimiter(t *testing.T) {
	all := frames()
	next := draw()
	for range 3000 {
		f := api.Frame{Kind: api.Classic, ID: next() >> 3, Ext: true, Data: make([]byte, next()%9)}
		for i := range f.Data {
			f.Data[i] = byte(next()) & byte(next())
		}
		all = append(all, f)
	}
	for _, f := range all {
		w, e := classic.Wire(f)
		if e != api.OK {
			t.Fatalf("%+v: %d", f, e)
		}
		ahead := w.Bits[:w.Ack-1]
		for _, b := range []byte{0, 1} {
			if bytes.Contains(ahead, bytes.Repeat([]byte{b}, 6)) {
				t.Fatalf("%+v: six %ds: %v", f, b, ahead)
			}
		}
	}
}

// wins holds that the first frame is dominant where both differ first, while both arbitrate.
func wins(t *testing.T, f, g api.Frame) {
	t.Helper()
	a, _ := classic.Wire(f)
	b, _ := classic.Wire(g)
	for i := range min(a.Arb, b.Arb) {
		if a.Bits[i] != b.Bits[i] {
			if a.Bits[i] != 0 {
				t.Fatalf("%+v loses against %+v at bit %d", f, g, i)
			}
			return
		}
	}
	t.Fatalf("%+v and %+v are one as long as both arbitrate", f, g)
}

func TestALowerIdentifierIsDominant(t *testing.T) {
	for _, ext := range []bool{false, true} {
		size := 11
		if ext {
			size = 29
		}
		l := ids(size)
		slices.Sort(l)
		l = slices.Compact(l)
		for i, low := range l {
			for _, high := range l[i+1:] {
				f := api.Frame{Kind: api.Classic, ID: low, Ext: ext}
				g := api.Frame{Kind: api.Classic, ID: high, Ext: ext}
				wins(t, f, g)
				// What stands behind the identifier doesn't matter.
				f.RTR, g.Data = true, []byte{0}
				wins(t, f, g)
				f.RTR, g.RTR = false, true
				f.Data, g.Data = []byte{255, 255}, nil
				wins(t, f, g)
			}
		}
	}
}

func TestEachShorterIDWinsOverTheNext(t *testing.T) {
	for id := range uint32(2047) {
		wins(t, api.Frame{Kind: api.Classic, ID: id}, api.Frame{Kind: api.Classic, ID: id + 1})
	}
}

func TestOfOneIdentifier(t *testing.T) {
	for _, id := range ids(11) {
		data := api.Frame{Kind: api.Classic, ID: id, Data: []byte{255}}
		remote := api.Frame{Kind: api.Classic, ID: id, RTR: true}
		wins(t, data, remote)
		for _, low := range []uint32{0, 1, 1<<18 - 1} {
			longer := api.Frame{Kind: api.Classic, ID: id<<18 | low, Ext: true}
			wins(t, data, longer)
			wins(t, remote, longer)
			far := longer
			far.RTR = true
			wins(t, longer, far)
		}
	}
}

func TestTheShorterIDAheadTells(t *testing.T) {
	for id := range uint32(2047) {
		longer := api.Frame{Kind: api.Classic, ID: (id+1)<<18 - 1, Ext: true, RTR: true}
		wins(t, longer, api.Frame{Kind: api.Classic, ID: id + 1})
		wins(t, api.Frame{Kind: api.Classic, ID: id, RTR: true}, api.Frame{Kind: api.Classic, ID: (id + 1) << 18, Ext: true})
	}
}

// DOC.md's rules of lists, and of what answers hang on

// calls are the package's that take a frame, each with the list that it answers.
func calls() map[string]func(api.Frame) []byte {
	return map[string]func(api.Frame) []byte{
		"Body": func(f api.Frame) []byte { l, _ := classic.Body(f); return l },
		"Wire": func(f api.Frame) []byte { w, _ := classic.Wire(f); return w.Bits },
	}
}

func TestNilAndEmptyAreOne(t *testing.T) {
	for name, call := range calls() {
		for _, f := range []api.Frame{{Kind: api.Classic}, {Kind: api.Classic, RTR: true}, {Kind: api.Classic, Ext: true}} {
			g := f
			g.Data = []byte{}
			if l := call(f); len(l) == 0 || !bytes.Equal(l, call(g)) {
				t.Errorf("%s of %+v: nil and empty Data differ", name, f)
			}
		}
	}
}

func TestWhatIsHandedInStays(t *testing.T) {
	for name, call := range calls() {
		for n := range 12 {
			room := bytes.Repeat([]byte{0xa7}, 40)
			before := bytes.Clone(room)
			out := call(api.Frame{Kind: api.Classic, ID: 5, Data: room[:n]})
			for i := range out[:cap(out)] {
				out[:cap(out)][i] = 9
			}
			if !bytes.Equal(room, before) {
				t.Errorf("%s of %d bytes: %v", name, n, room)
			}
		}
	}
}

func TestAnswersAreNew(t *testing.T) {
	for name, call := range calls() {
		for _, f := range frames()[:100] {
			first, second := call(f), call(f)
			want := bytes.Clone(second)
			if !bytes.Equal(first, want) {
				t.Errorf("%s of %+v: two answers", name, f)
			}
			for i := range first[:cap(first)] {
				first[:cap(first)][i] = 9
			}
			if !bytes.Equal(second, want) || !bytes.Equal(call(f), want) {
				t.Errorf("%s of %+v: two answers share memory", name, f)
			}
		}
	}
}
