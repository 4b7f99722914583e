package xl_test

import (
	"bytes"
	"math"
	"slices"
	"strconv"
	"strings"
	"testing"

	"omnibus/api"
	"omnibus/xl"
)

// row is a text's bits, told without the packages that are tested; blanks only part them.
func row(s string) []byte {
	l := make([]byte, 0, len(s))
	for _, c := range s {
		if c != ' ' {
			l = append(l, byte(c-'0'))
		}
	}
	return l
}

// bin is a number's digits to base 2, as many as size.
func bin(n uint64, size int) string {
	s := strconv.FormatUint(n, 2)
	return strings.Repeat("0", size-len(s)) + s
}

func flag(b bool) string {
	if b {
		return "1"
	}
	return "0"
}

// headOf is a frame's head ahead of all stuffing, by the chapter's words.
func headOf(f api.Frame) string {
	return "0" + bin(uint64(f.ID), 11) + "00110"
}

// bodyOf is a frame's data part ahead of all stuffing, by the chapter's words.
func bodyOf(f api.Frame) string {
	head := headOf(f)
	s := bin(uint64(f.SDT), 8) + flag(f.SEC) + bin(uint64(len(f.Data)-1), 11)
	s += tallyOf(len(stuffed(head)) - len(head))
	s += sumOf(head+s, 13, 0x19e7)
	s += bin(uint64(f.VCID), 8) + bin(uint64(f.AF), 32)
	var data strings.Builder
	for _, b := range f.Data {
		data.WriteString(bin(uint64(b), 8))
	}
	s += data.String()
	return s + sumOf(s, 32, 0xf4acfb13)
}

// stuffed is a row with a stuff bit behind each five alike, but not behind the last bit.
func stuffed(s string) string {
	raw := ""
	for _, c := range s {
		if strings.HasSuffix(raw, "00000") {
			raw += "1"
		} else if strings.HasSuffix(raw, "11111") {
			raw += "0"
		}
		raw += string(c)
	}
	return raw
}

// tallyOf is a number's tally, by a list of all that a head may have.
func tallyOf(n int) string {
	return []string{"0000", "0011", "0110", "0101", "1100"}[n]
}

// sumOf is the sum of a row, reckoned as a division of the whole row by the polynomial; the start, 1, stands as if that bit of the row were turned that is the last one of as many as the sum has.
func sumOf(s string, size int, poly uint64) string {
	rest := row(s + strings.Repeat("0", size))
	by := row("1" + bin(poly, size))
	rest[size-1] ^= 1
	for i := range len(s) {
		if rest[i] == 1 {
			for j, b := range by {
				rest[i+j] ^= b
			}
		}
	}
	sum := ""
	for _, b := range rest[len(s):] {
		sum += string('0' + rune(b))
	}
	return sum
}

// fixedOf has a stuff bit behind each eight bits, but not behind the last ones.
func fixedOf(s string) string {
	var raw strings.Builder
	for len(s) > 8 {
		raw.WriteString(s[:8] + flag(s[7] == '0'))
		s = s[8:]
	}
	return raw.String() + s
}

// wireOf is what a frame that may be has on the wire.
func wireOf(f api.Frame) api.Wire {
	head := stuffed(headOf(f))
	all := head + "1001" + fixedOf(bodyOf(f)) + "0110"
	return api.Wire{Bits: row(all + "1 1 1 1111111"), Arb: len(head), Ack: len(all) + 1}
}

// draw answers numbers without a short rule in them, the same ones in each run.
func draw() func() uint32 {
	x := uint64(1)
	return func() uint32 {
		x = x*6364136223846793005 + 1442695040888963407
		return uint32(x >> 32)
	}
}

// mixed are bytes without a short rule in them.
func mixed(next func() uint32, size int) []byte {
	l := make([]byte, size)
	for i := range l {
		l[i] = byte(next())
	}
	return l
}

// datas are lists of some sizes that a frame may have, some with long runs, some without.
func datas() [][]byte {
	var lists [][]byte
	next := draw()
	for _, n := range []int{1, 2, 3, 4, 7, 8, 9, 15, 16, 17, 63, 64, 65} {
		lists = append(lists, mixed(next, n))
		for _, b := range []byte{0, 255, 0x0f, 0xf8} {
			lists = append(lists, bytes.Repeat([]byte{b}, n))
		}
	}
	return lists
}

// ids are some identifiers: each bit alone, each bit left out, and all bits from one on.
func ids() []uint32 {
	l := []uint32{0, 2047, 1365, 682, 120}
	for i := range 11 {
		l = append(l, 1<<i, 2047^1<<i, 2047>>i, 2047>>i<<i)
	}
	slices.Sort(l)
	return slices.Compact(l)
}

// plain is a frame with nothing but what each must have; full has all fields at their most.
func plain(id uint32, data []byte) api.Frame {
	return api.Frame{Kind: api.XL, ID: id, Data: data}
}

func full(id uint32, data []byte) api.Frame {
	return api.Frame{Kind: api.XL, ID: id, SEC: true, SDT: 255, VCID: 255, AF: 1<<32 - 1, Data: data}
}

// filled is a frame with what comes next in its fields.
func filled(next func() uint32, id uint32, data []byte) api.Frame {
	return api.Frame{Kind: api.XL, ID: id, SEC: next()%2 == 0, SDT: uint8(next()), VCID: uint8(next()), AF: next(), Data: data}
}

// frames are some of all shapes that may be.
func frames() []api.Frame {
	var l []api.Frame
	next := draw()
	for _, d := range datas() {
		for _, id := range ids() {
			l = append(l, filled(next, id, d))
		}
		l = append(l, plain(0, d), plain(0x2a5, d), full(0x2a5, d), full(2047, d))
	}
	for _, n := range []int{255, 256, 257, 1024, 2047, 2048} {
		l = append(l, plain(5, make([]byte, n)), full(5, bytes.Repeat([]byte{255}, n)), filled(next, 120, mixed(next, n)))
	}
	return append(l, fields()...)
}

// fields are frames with each value of the small fields, and each bit of the others.
func fields() []api.Frame {
	var l []api.Frame
	data := []byte{0xa5, 0x3c}
	for n := range 256 {
		l = append(l, api.Frame{Kind: api.XL, ID: 7, SDT: uint8(n), Data: data}, api.Frame{Kind: api.XL, ID: 7, VCID: uint8(n), Data: data})
		l = append(l, plain(7, []byte{byte(n)}))
	}
	for i := range 32 {
		l = append(l, api.Frame{Kind: api.XL, ID: 7, AF: 1 << i, Data: data}, api.Frame{Kind: api.XL, ID: 7, AF: ^(1 << i), Data: data})
	}
	return append(l, api.Frame{Kind: api.XL, ID: 7, SEC: true, Data: data})
}

// noFrames are some that may not be, and some that may, but are of other kinds.
func noFrames() []api.Frame {
	l := []api.Frame{
		{}, {ID: 5, Data: []byte{1}},
		{Kind: api.Classic}, {Kind: api.Classic, ID: 5, Data: []byte{1, 2}}, {Kind: api.Classic, ID: 1 << 28, Ext: true}, {Kind: api.Classic, RTR: true},
		{Kind: api.FD}, {Kind: api.FD, ID: 5, BRS: true, Data: make([]byte, 12)}, {Kind: api.FD, Data: make([]byte, 64)}, {Kind: api.FD, SDT: 3, Data: []byte{1}},
	}
	for _, kind := range []int{4, -1, -3, 255, 259, 1<<32 + 3, math.MaxInt, math.MinInt} {
		l = append(l, api.Frame{Kind: kind}, api.Frame{Kind: kind, ID: 5, Data: []byte{1}})
	}
	for _, id := range []uint32{2048, 2049, 1 << 16, 1<<29 - 1, 1 << 29, 1 << 31, 1<<32 - 1} {
		l = append(l, plain(id, nil), plain(id, []byte{1}), full(id, make([]byte, 2048)))
	}
	for _, n := range []int{0, 2049, 2050, 4096, api.MaxBits, 1 << 20} {
		l = append(l, plain(5, make([]byte, n)), full(5, make([]byte, n)))
	}
	return append(l, alien()...)
}

// alien are frames with a field each that an XL frame hasn't.
func alien() []api.Frame {
	var l []api.Frame
	for _, set := range []func(*api.Frame){
		func(f *api.Frame) { f.Ext = true },
		func(f *api.Frame) { f.RTR = true },
		func(f *api.Frame) { f.BRS = true },
		func(f *api.Frame) { f.ESI = true },
	} {
		for _, f := range []api.Frame{plain(5, nil), plain(5, []byte{1}), full(5, make([]byte, 2048))} {
			set(&f)
			l = append(l, f)
		}
	}
	return l
}

// P8.1: Body

// bodied holds a frame's data part against what it must be.
func bodied(t *testing.T, f api.Frame, want string) {
	t.Helper()
	if l, e := xl.Body(f); e != api.OK || !bytes.Equal(l, row(want)) {
		t.Fatalf("%+v: %v, %d, wanted %s", f, l, e, want)
	}
}

func TestBody(t *testing.T) {
	for _, x := range []struct {
		f    api.Frame
		want string
	}{
		{api.Frame{Kind: api.XL, ID: 1365, SEC: true, SDT: 3, VCID: 0x12, AF: 0xdeadbeef, Data: []byte{1, 2, 3}},
			"00000011 1 00000000010 0000 0110111111111 00010010 11011110101011011011111011101111 00000001 00000010 00000011 10111101001100001101011000001110"},
		{plain(0, []byte{0}),
			"00000000 0 00000000000 0110 1001010111111 00000000 00000000000000000000000000000000 00000000 00010001100100010101010001100011"},
		{full(2047, []byte{255}),
			"11111111 1 00000000000 0110 0111001001011 11111111 11111111111111111111111111111111 11111111 10011101100101100001111100011111"},
		{api.Frame{Kind: api.XL, ID: 1, SDT: 0x80, VCID: 1, AF: 1 << 31, Data: []byte{0xa1}},
			"10000000 0 00000000000 0110 1110010100011 00000001 10000000000000000000000000000000 10100001 01110100001011010010011101100011"},
		{api.Frame{Kind: api.XL, ID: 1024, SEC: true, SDT: 1, VCID: 0x80, AF: 1, Data: []byte{1, 2}},
			"00000001 1 00000000001 0110 0011010111001 10000000 00000000000000000000000000000001 00000001 00000010 00111111100111001011000110001010"},
		{plain(5, make([]byte, 2048)),
			"00000000 0 11111111111 0011 1110010010100 00000000 00000000000000000000000000000000" + strings.Repeat("0", 16384) + "10101100101001010111101011001101"},
		{full(5, bytes.Repeat([]byte{255}, 2048)),
			"11111111 1 11111111111 0011 0110100100001 11111111 11111111111111111111111111111111" + strings.Repeat("1", 16384) + "01010000111110011010001011000010"},
	} {
		bodied(t, x.f, x.want)
	}
}

func TestBodyOfAllShapes(t *testing.T) {
	for _, f := range frames() {
		bodied(t, f, bodyOf(f))
	}
}

func TestBodyOfEachID(t *testing.T) {
	next := draw()
	for id := range uint32(2048) {
		f := filled(next, id, []byte{1})
		bodied(t, f, bodyOf(f))
	}
}

func TestBodyHasSoManyBits(t *testing.T) {
	for size := 1; size <= 2048; size++ {
		if l, e := xl.Body(plain(5, make([]byte, size))); e != api.OK || len(l) != 109+8*size {
			t.Fatalf("%d bytes: %d bits, %d", size, len(l), e)
		}
	}
}

func TestBodyRefuses(t *testing.T) {
	for i, f := range noFrames() {
		if l, e := xl.Body(f); e != api.ErrArg || len(l) != 0 {
			t.Errorf("frame %d, kind %d: %d bits, %d", i, f.Kind, len(l), e)
		}
	}
}

// The frames together have to tell of each number of stuff bits that a head may have.
func TestAllTalliesAreMet(t *testing.T) {
	met := map[int]bool{}
	for _, f := range frames() {
		met[len(stuffed(headOf(f)))-17] = true
	}
	if len(met) != 4 || !met[0] || !met[3] {
		t.Errorf("%v", met)
	}
}

// P8.1: Most

func TestMost(t *testing.T) {
	// 117 bits have 14 stuff bits at fixed places, and each byte has one more.
	for size := 1; size <= 2048; size++ {
		want := 17 + 4 + 4 + 117 + 14 + 4 + 10 + 9*(size-1)
		if n, e := xl.Most(size); n != want || e != api.OK {
			t.Errorf("%d bytes: %d, %d, wanted %d", size, n, e, want)
		}
	}
}

func TestMostRefuses(t *testing.T) {
	for _, size := range []int{0, -1, -2, -8, -2048, 2049, 2050, 4096, api.MaxBits, 1 << 32, 1<<32 + 1, -1 << 32, 1 - 1<<32, math.MaxInt, math.MinInt} {
		if n, e := xl.Most(size); n != 0 || e != api.ErrArg {
			t.Errorf("%d bytes: %d, %d", size, n, e)
		}
	}
}

func TestNoFrameHasMoreThanMost(t *testing.T) {
	for _, f := range frames() {
		w, e := xl.Wire(f)
		most, g := xl.Most(len(f.Data))
		// The head alone may have fewer stuff bits.
		if e != api.OK || g != api.OK || len(w.Bits) > most || len(w.Bits) != most-21+w.Arb {
			t.Errorf("%+v: %d bits, at most %d, %d, %d", f, len(w.Bits), most, e, g)
		}
	}
}

// P8.2

// wired holds a frame on the wire against what it must be.
func wired(t *testing.T, f api.Frame, want api.Wire) {
	t.Helper()
	w, e := xl.Wire(f)
	if e != api.OK || !bytes.Equal(w.Bits, want.Bits) || w.Arb != want.Arb || w.Ack != want.Ack {
		t.Fatalf("%+v: %v, %d, wanted %v", f, w, e, want)
	}
}

func TestWire(t *testing.T) {
	ones := " 1 1 1 1111111"
	for _, x := range []struct {
		f        api.Frame
		want     string
		arb, ack int
	}{
		{api.Frame{Kind: api.XL, ID: 1365, SEC: true, SDT: 3, VCID: 0x12, AF: 0xdeadbeef, Data: []byte{1, 2, 3}},
			"0 10101010101 00110  1001  00000011 0 10000000 1 00100000 1 01101111 0 11111000 1 10010110 1 11110101 0 01101101 0 11110111 0 01111000 1 00001000 1 00010000 1 00011101 0 11101001 0 10000110 1 10110000 1 01110  0110", 17, 175},
		{plain(0, []byte{0}),
			"0 0000 1 00000 1 00 00110  1001  00000000 1 00000000 1 00000110 1 10010101 0 11111000 1 00000000 1 00000000 1 00000000 1 00000000 1 00000000 1 00000000 1 10001100 1 10001010 1 10100011 0 00011  0110", 19, 159},
		{full(2047, []byte{255}),
			"0 11111 0 11111 0 1 00110  1001  11111111 0 10000000 1 00000110 1 01110010 1 01011111 0 11111111 0 11111111 0 11111111 0 11111111 0 11111111 0 11111100 1 11101100 1 10110000 1 11111000 1 11111  0110", 19, 159},
		{api.Frame{Kind: api.XL, ID: 1, SDT: 0x80, VCID: 1, AF: 1 << 31, Data: []byte{0xa1}},
			"0 0000 1 00000 1 01 00110  1001  10000000 1 00000000 1 00000110 1 11100101 0 00011000 1 00001100 1 00000000 1 00000000 1 00000000 1 00000101 0 00001011 0 10100001 0 01101001 0 00111011 0 00011  0110", 19, 159},
		{api.Frame{Kind: api.XL, ID: 1024, SEC: true, SDT: 1, VCID: 0x80, AF: 1, Data: []byte{1, 2}},
			"0 10000 0 1 00000 1 00110  1001  00000001 0 10000000 1 00010110 1 00110101 0 11001100 1 00000000 1 00000000 1 00000000 1 00000000 1 00001000 1 00001000 1 00010001 0 11111100 1 11100101 0 10001100 1 01010  0110", 19, 168},
	} {
		wired(t, x.f, api.Wire{Bits: row(x.want + ones), Arb: x.arb, Ack: x.ack})
	}
}

func TestWireOfAllShapes(t *testing.T) {
	for _, f := range frames() {
		wired(t, f, wireOf(f))
	}
}

func TestWireOfEachID(t *testing.T) {
	next := draw()
	for id := range uint32(2048) {
		f := filled(next, id, []byte{byte(id), 0, 0})
		wired(t, f, wireOf(f))
	}
}

func TestWireOfEachSize(t *testing.T) {
	next := draw()
	for size := 1; size <= 2048; size++ {
		f := filled(next, next()>>21, mixed(next, size))
		wired(t, f, wireOf(f))
	}
}

func TestTheSlotIsTheNinthFromTheEnd(t *testing.T) {
	for _, f := range frames() {
		w, e := xl.Wire(f)
		if e != api.OK || w.Ack != len(w.Bits)-9 || !bytes.HasSuffix(w.Bits, row("0110 1111111111")) {
			t.Errorf("%+v: %v, %d", f, w, e)
		}
	}
}

func TestWireRefuses(t *testing.T) {
	for i, f := range noFrames() {
		if w, e := xl.Wire(f); e != api.ErrArg || len(w.Bits) != 0 || w.Arb != 0 || w.Ack != 0 {
			t.Errorf("frame %d, kind %d: %d bits, %d, %d, %d", i, f.Kind, len(w.Bits), w.Arb, w.Ack, e)
		}
	}
}

// P8.3

// longest is how many of a row's bits, one behind the other, are the same one at most.
func longest(l []byte) int {
	most, run := 0, 0
	for i, b := range l {
		if i > 0 && b != l[i-1] {
			run = 0
		}
		run++
		most = max(most, run)
	}
	return most
}

func TestNeverMoreThanNineAlikeAheadOfTheDelimiter(t *testing.T) {
	all := frames()
	next := draw()
	for range 3000 {
		f := filled(next, next()>>21, mixed(next, 1+int(next()%80)))
		for i := range f.Data {
			f.Data[i] &= byte(next())
		}
		all = append(all, f)
	}
	most := 0
	for _, f := range all {
		w, e := xl.Wire(f)
		if e != api.OK {
			t.Fatalf("%+v: %d", f, e)
		}
		n := longest(w.Bits[:w.Ack-1])
		if n > 9 {
			t.Fatalf("%+v: %d alike: %v", f, n, w.Bits)
		}
		most = max(most, n)
	}
	if most != 9 {
		t.Errorf("at most %d alike: no frame here comes to nine", most)
	}
}

// wins holds that the first frame is dominant where both differ first, while both arbitrate.
func wins(t *testing.T, f, g api.Frame) {
	t.Helper()
	a, _ := xl.Wire(f)
	b, _ := xl.Wire(g)
	for i := range min(a.Arb, b.Arb) {
		if a.Bits[i] != b.Bits[i] {
			if a.Bits[i] != 0 {
				t.Fatalf("%+v loses against %+v at bit %d", f, g, i)
			}
			return
		}
	}
	t.Fatalf("%+v and %+v are one as long as both arbitrate", f, g)
}

func TestALowerIdentifierIsDominant(t *testing.T) {
	l := ids()
	for i, low := range l {
		for _, high := range l[i+1:] {
			// What stands behind the identifier doesn't matter.
			wins(t, full(low, bytes.Repeat([]byte{255}, 20)), plain(high, []byte{0}))
			wins(t, plain(low, []byte{0}), full(high, bytes.Repeat([]byte{255}, 20)))
		}
	}
}

func TestEachIDWinsOverTheNext(t *testing.T) {
	for id := range uint32(2047) {
		wins(t, full(id, []byte{255}), plain(id+1, []byte{0}))
	}
}

func TestOfOneIdentifierNothingThatArbitratesDiffers(t *testing.T) {
	for _, id := range ids() {
		a, _ := xl.Wire(plain(id, []byte{0}))
		b, _ := xl.Wire(full(id, bytes.Repeat([]byte{255}, 64)))
		if a.Arb != b.Arb || !bytes.Equal(a.Bits[:a.Arb], b.Bits[:b.Arb]) {
			t.Errorf("%d: %v, %v", id, a.Bits[:a.Arb], b.Bits[:b.Arb])
		}
	}
}

// DOC.md's rules of lists, and of what answers hang on

// calls are the package's that take a frame, each with the list that it answers.
func calls() map[string]func(api.Frame) []byte {
	return map[string]func(api.Frame) []byte{
		"Body": func(f api.Frame) []byte { l, _ := xl.Body(f); return l },
		"Wire": func(f api.Frame) []byte { w, _ := xl.Wire(f); return w.Bits },
	}
}

func TestNilAndEmptyAreOne(t *testing.T) {
	for _, data := range [][]byte{nil, {}, make([]byte, 0, 8)} {
		l, e := xl.Body(full(7, data))
		w, g := xl.Wire(full(7, data))
		if len(l) != 0 || e != api.ErrArg || len(w.Bits) != 0 || g != api.ErrArg {
			t.Errorf("%v, %d, %v, %d", l, e, w, g)
		}
	}
}

func TestWhatIsHandedInStays(t *testing.T) {
	for name, call := range calls() {
		for _, n := range []int{0, 1, 2, 7, 8, 9, 64, 200, 2047, 2048, 2049} {
			room := bytes.Repeat([]byte{0xa7}, 2100)
			before := bytes.Clone(room)
			out := call(full(5, room[:n]))
			for i := range out[:cap(out)] {
				out[:cap(out)][i] = 9
			}
			if !bytes.Equal(room, before) {
				t.Errorf("%s of %d bytes: %v", name, n, room)
			}
		}
	}
}

func TestAnswersAreNew(t *testing.T) {
	for name, call := range calls() {
		for _, f := range frames()[:100] {
			first, second := call(f), call(f)
			want := bytes.Clone(second)
			if !bytes.Equal(first, want) {
				t.Errorf("%s of %+v: two answers", name, f)
			}
			for i := range first[:cap(first)] {
				first[:cap(first)][i] = 9
			}
			if !bytes.Equal(second, want) || !bytes.Equal(call(f), want) {
				t.Errorf("%s of %+v: two answers share memory", name, f)
			}
		}
	}
}
