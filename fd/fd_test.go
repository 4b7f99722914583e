package fd_test

import (
	"bytes"
	"math"
	"slices"
	"strconv"
	"strings"
	"testing"

	"omnibus/api"
	"omnibus/fd"
)

// sizes are those of an FD frame's Data, each at its code.
var sizes = []int{0, 1, 2, 3, 4, 5, 6, 7, 8, 12, 16, 20, 24, 32, 48, 64}

// row is a text's bits, told without the packages that are tested; blanks only part them.
func row(s string) []byte {
	var l []byte
	for _, c := range s {
		if c != ' ' {
			l = append(l, byte(c-'0'))
		}
	}
	return l
}

// bin is a number's digits to base 2, as many as size.
func bin(n uint64, size int) string {
	s := strconv.FormatUint(n, 2)
	return strings.Repeat("0", size-len(s)) + s
}

func flag(b bool) string {
	if b {
		return "1"
	}
	return "0"
}

// bodyOf is a frame's bits ahead of all stuffing, by the chapter's words.
func bodyOf(f api.Frame) string {
	s := "0" + bin(uint64(f.ID), 11) + "0010" + flag(f.BRS) + flag(f.ESI) + bin(uint64(slices.Index(sizes, len(f.Data))), 4)
	for _, b := range f.Data {
		s += bin(uint64(b), 8)
	}
	return s
}

// stuffed is a row with a stuff bit behind each five alike, but not behind the last bit.
func stuffed(s string) string {
	raw := ""
	for _, c := range s {
		if strings.HasSuffix(raw, "00000") {
			raw += "1"
		} else if strings.HasSuffix(raw, "11111") {
			raw += "0"
		}
		raw += string(c)
	}
	return raw
}

// tallyOf is a number's tally, by a list of all there are.
func tallyOf(n int) string {
	return []string{"0000", "0011", "0110", "0101", "1100", "1111", "1010", "1001"}[n%8]
}

// sumOf is the sum of a row, reckoned as a division of the whole row by the polynomial; the start, one 1, stands as if the row's first bit were turned.
func sumOf(s string, size int, poly uint64) string {
	rest := row(s + strings.Repeat("0", size))
	by := row("1" + bin(poly, size))
	rest[0] ^= 1
	for i := range len(s) {
		if rest[i] == 1 {
			for j, b := range by {
				rest[i+j] ^= b
			}
		}
	}
	sum := ""
	for _, b := range rest[len(s):] {
		sum += string('0' + rune(b))
	}
	return sum
}

// fixedOf has a stuff bit ahead of each four bits.
func fixedOf(prev byte, s string) string {
	raw := string(prev)
	for len(s) > 0 {
		n := min(4, len(s))
		raw += flag(raw[len(raw)-1] == '0') + s[:n]
		s = s[n:]
	}
	return raw[1:]
}

// wireOf is what a frame that may be has on the wire.
func wireOf(f api.Frame) api.Wire {
	body := bodyOf(f)
	raw := stuffed(body)
	told := tallyOf(len(raw) - len(body))
	sum := sumOf(raw+told, 17, 0x1685b)
	if len(f.Data) > 16 {
		sum = sumOf(raw+told, 21, 0x102899)
	}
	all := raw + fixedOf(raw[len(raw)-1], told+sum)
	return api.Wire{Bits: row(all + "1 1 1 1111111"), Arb: len(stuffed(body[:16])), Ack: len(all) + 1}
}

// draw answers numbers without a short rule in them, the same ones in each run.
func draw() func() uint32 {
	x := uint64(1)
	return func() uint32 {
		x = x*6364136223846793005 + 1442695040888963407
		return uint32(x >> 32)
	}
}

// datas are lists of all sizes that a frame may have, some with long runs, some without.
func datas() [][]byte {
	lists := [][]byte{nil, {}}
	next := draw()
	for _, n := range sizes[1:] {
		mixed := make([]byte, n)
		for i := range mixed {
			mixed[i] = byte(next())
		}
		lists = append(lists, mixed)
		for _, b := range []byte{0, 255, 0x0f, 0xf8} {
			lists = append(lists, bytes.Repeat([]byte{b}, n))
		}
	}
	return lists
}

// ids are some identifiers: each bit alone, each bit left out, and all bits from one on.
func ids() []uint32 {
	l := []uint32{0, 2047, 1365, 682}
	for i := range 11 {
		l = append(l, 1<<i, 2047^1<<i, 2047>>i, 2047>>i<<i)
	}
	slices.Sort(l)
	return slices.Compact(l)
}

// flagged is a frame with its two flags by a number's two bits.
func flagged(id uint32, flags int, data []byte) api.Frame {
	return api.Frame{Kind: api.FD, ID: id, BRS: flags&2 != 0, ESI: flags&1 != 0, Data: data}
}

// frames are some of all shapes that may be.
func frames() []api.Frame {
	var l []api.Frame
	for i, id := range ids() {
		for j, d := range datas() {
			l = append(l, flagged(id, i+j, d))
		}
	}
	for flags := range 4 {
		for _, d := range datas() {
			l = append(l, flagged(0x2a5, flags, d))
		}
	}
	return l
}

// noFrames are some that may not be, and some that may, but are of other kinds.
func noFrames() []api.Frame {
	l := []api.Frame{
		{}, {ID: 5, Data: []byte{1}},
		{Kind: api.Classic}, {Kind: api.Classic, ID: 5, Data: []byte{1, 2}}, {Kind: api.Classic, ID: 1 << 28, Ext: true}, {Kind: api.Classic, RTR: true},
		{Kind: api.XL}, {Kind: api.XL, Data: []byte{1}}, {Kind: api.XL, Data: make([]byte, 64)},
	}
	for _, kind := range []int{4, -1, -2, 255, 258, 1<<32 + 2, math.MaxInt, math.MinInt} {
		l = append(l, api.Frame{Kind: kind}, api.Frame{Kind: kind, ID: 5, Data: []byte{1}})
	}
	for _, id := range []uint32{2048, 2049, 1 << 16, 1<<29 - 1, 1 << 29, 1 << 31, 1<<32 - 1} {
		l = append(l, api.Frame{Kind: api.FD, ID: id}, api.Frame{Kind: api.FD, ID: id, Data: []byte{1}})
	}
	for n := range 70 {
		if !slices.Contains(sizes, n) {
			l = append(l, api.Frame{Kind: api.FD, Data: make([]byte, n)})
		}
	}
	for _, n := range []int{128, 2048, api.MaxBits, 1 << 20} {
		l = append(l, api.Frame{Kind: api.FD, Data: make([]byte, n)})
	}
	return append(l, alien()...)
}

// alien are frames with a field each that an FD frame hasn't.
func alien() []api.Frame {
	var l []api.Frame
	for _, set := range []func(*api.Frame){
		func(f *api.Frame) { f.Ext = true },
		func(f *api.Frame) { f.RTR = true },
		func(f *api.Frame) { f.SEC = true },
		func(f *api.Frame) { f.SDT = 1 },
		func(f *api.Frame) { f.VCID = 128 },
		func(f *api.Frame) { f.AF = 1 << 31 },
	} {
		for _, data := range [][]byte{nil, {1}, make([]byte, 64)} {
			f := flagged(5, 3, data)
			set(&f)
			l = append(l, f)
		}
	}
	return l
}

// P7.1: Body

func TestBody(t *testing.T) {
	for _, x := range []struct {
		f    api.Frame
		want string
	}{
		{api.Frame{Kind: api.FD, ID: 1365}, "0 10101010101 0010 0 0 0000"},
		{api.Frame{Kind: api.FD}, "0 00000000000 0010 0 0 0000"},
		{api.Frame{Kind: api.FD, ID: 2047, BRS: true, ESI: true}, "0 11111111111 0010 1 1 0000"},
		{api.Frame{Kind: api.FD, ID: 1, BRS: true, Data: []byte{0xa1}}, "0 00000000001 0010 1 0 0001 10100001"},
		{api.Frame{Kind: api.FD, ID: 1024, ESI: true, Data: []byte{1, 2}}, "0 10000000000 0010 0 1 0010 00000001 00000010"},
		{api.Frame{Kind: api.FD, ID: 5, Data: make([]byte, 8)}, "0 00000000101 0010 0 0 1000" + strings.Repeat("0", 64)},
		{api.Frame{Kind: api.FD, ID: 5, Data: make([]byte, 12)}, "0 00000000101 0010 0 0 1001" + strings.Repeat("0", 96)},
		{api.Frame{Kind: api.FD, ID: 5, Data: make([]byte, 64)}, "0 00000000101 0010 0 0 1111" + strings.Repeat("0", 512)},
	} {
		if l, e := fd.Body(x.f); e != api.OK || !bytes.Equal(l, row(x.want)) {
			t.Errorf("%+v: %v, %d, wanted %s", x.f, l, e, x.want)
		}
	}
}

func TestBodyOfAllShapes(t *testing.T) {
	for _, f := range frames() {
		if l, e := fd.Body(f); e != api.OK || !bytes.Equal(l, row(bodyOf(f))) {
			t.Fatalf("%+v: %v, %d, wanted %s", f, l, e, bodyOf(f))
		}
	}
}

func TestBodyOfEachID(t *testing.T) {
	for id := range uint32(2048) {
		for flags := range 4 {
			f := flagged(id, flags, nil)
			if l, e := fd.Body(f); e != api.OK || !bytes.Equal(l, row(bodyOf(f))) {
				t.Fatalf("%+v: %v, %d, wanted %s", f, l, e, bodyOf(f))
			}
		}
	}
}

func TestBodyRefuses(t *testing.T) {
	for i, f := range noFrames() {
		if l, e := fd.Body(f); e != api.ErrArg || len(l) != 0 {
			t.Errorf("frame %d, kind %d: %d bits, %d", i, f.Kind, len(l), e)
		}
	}
}

// P7.1: Most

func TestMost(t *testing.T) {
	// 21 bits have six stuff bits at fixed places, 25 have seven.
	want := map[int]int{
		0: 22 + 5 + 27 + 10, 1: 30 + 7 + 27 + 10, 2: 38 + 9 + 27 + 10, 3: 46 + 11 + 27 + 10, 4: 54 + 13 + 27 + 10,
		5: 62 + 15 + 27 + 10, 6: 70 + 17 + 27 + 10, 7: 78 + 19 + 27 + 10, 8: 86 + 21 + 27 + 10, 12: 118 + 29 + 27 + 10,
		16: 150 + 37 + 27 + 10, 20: 182 + 45 + 32 + 10, 24: 214 + 53 + 32 + 10, 32: 278 + 69 + 32 + 10,
		48: 406 + 101 + 32 + 10, 64: 534 + 133 + 32 + 10,
	}
	for _, size := range sizes {
		if n, e := fd.Most(size); n != want[size] || e != api.OK {
			t.Errorf("%d bytes: %d, %d, wanted %d", size, n, e, want[size])
		}
	}
}

func TestMostRefuses(t *testing.T) {
	l := []int{128, 2048, 1 << 32, 1<<32 + 1, 1<<32 + 12, -1 << 32, 1 - 1<<32, math.MaxInt, math.MinInt}
	for size := -70; size < 100; size++ {
		if !slices.Contains(sizes, size) {
			l = append(l, size)
		}
	}
	for _, size := range l {
		if n, e := fd.Most(size); n != 0 || e != api.ErrArg {
			t.Errorf("%d bytes: %d, %d", size, n, e)
		}
	}
}

func TestNoFrameHasMoreThanMost(t *testing.T) {
	for _, f := range frames() {
		w, e := fd.Wire(f)
		most, g := fd.Most(len(f.Data))
		if e != api.OK || g != api.OK || len(w.Bits) > most {
			t.Errorf("%+v: %d bits, at most %d, %d, %d", f, len(w.Bits), most, e, g)
		}
	}
}

// P7.2

// wired holds a frame on the wire against what it must be.
func wired(t *testing.T, f api.Frame, want api.Wire) {
	t.Helper()
	w, e := fd.Wire(f)
	if e != api.OK || !bytes.Equal(w.Bits, want.Bits) || w.Arb != want.Arb || w.Ack != want.Ack {
		t.Fatalf("%+v: %v, %d, wanted %v", f, w, e, want)
	}
}

func TestWire(t *testing.T) {
	ones := " 1 1 1 1111111"
	for _, x := range []struct {
		f        api.Frame
		want     string
		arb, ack int
	}{
		{flagged(1365, 0, nil), "0 10101010101 0010 0 0 00 1 00  1 0011 0 0010 1 1111 0 0000 1 0111 0 1", 16, 51},
		{flagged(0, 0, nil), "0 0000 1 00000 1 00 0010 0 0 00 1 00  1 0101 0 0011 0 1001 0 0101 0 1111 0 1", 18, 53},
		{flagged(2047, 3, nil), "0 11111 0 11111 0 1 0010 1 1 0000  1 0110 1 1100 1 0011 0 0110 1 0100 1 0", 18, 52},
		{flagged(1, 2, []byte{0}), "0 0000 1 00000 1 01 0010 1 0 0001 00000 1 000  1 0101 0 0101 0 0111 0 0110 1 1011 0 0", 18, 61},
		{flagged(291, 1, []byte{1, 2}), "0 00100100011 0010 0 1 0010 0000 1 0001 00000 1 010  1 0110 1 0011 0 1011 0 1000 1 1110 1 1", 16, 68},
	} {
		wired(t, x.f, api.Wire{Bits: row(x.want + ones), Arb: x.arb, Ack: x.ack})
	}
}

// Of some longer frames the fixed part alone is told here: the sum is another one above 16 bytes.
func TestTheFixedPart(t *testing.T) {
	for _, x := range []struct {
		f     api.Frame
		fixed string
		size  int
	}{
		{flagged(2032, 2, bytes.Repeat([]byte{255}, 12)), "0 1111 0 0001 0 0111 0 0000 1 0111 0 0", 176},
		{flagged(5, 0, make([]byte, 16)), "1 0110 1 1101 0 1101 0 0000 1 1111 0 0", 213},
		{flagged(5, 0, make([]byte, 20)), "1 0000 1 0101 0 0110 1 1001 0 0000 1 0011 0 1", 256},
	} {
		w, e := fd.Wire(x.f)
		if e != api.OK || len(w.Bits) != x.size || !bytes.HasSuffix(w.Bits[:len(w.Bits)-10], row(x.fixed)) {
			t.Errorf("%+v: %d bits, %v, %d", x.f, len(w.Bits), w, e)
		}
	}
}

func TestWireOfAllShapes(t *testing.T) {
	for _, f := range frames() {
		wired(t, f, wireOf(f))
	}
}

func TestWireOfEachID(t *testing.T) {
	for id := range uint32(2048) {
		f := flagged(id, int(id)%4, []byte{byte(id), 0, 0})
		wired(t, f, wireOf(f))
	}
}

// The frames together have to tell of each number by 8 of stuff bits, and of more than seven.
func TestAllTalliesAreMet(t *testing.T) {
	met := map[int]bool{}
	most := 0
	for _, f := range frames() {
		body := bodyOf(f)
		n := len(stuffed(body)) - len(body)
		met[n%8] = true
		most = max(most, n)
	}
	if len(met) != 8 || most < 100 {
		t.Errorf("%v, %d", met, most)
	}
}

func TestTheSlotIsTheNinthFromTheEnd(t *testing.T) {
	for _, f := range frames() {
		w, e := fd.Wire(f)
		if e != api.OK || w.Ack != len(w.Bits)-9 || !bytes.HasSuffix(w.Bits, bytes.Repeat([]byte{1}, 10)) {
			t.Errorf("%+v: %v, %d", f, w, e)
		}
	}
}

func TestWireRefuses(t *testing.T) {
	for i, f := range noFrames() {
		if w, e := fd.Wire(f); e != api.ErrArg || len(w.Bits) != 0 || w.Arb != 0 || w.Ack != 0 {
			t.Errorf("frame %d, kind %d: %d bits, %d, %d, %d", i, f.Kind, len(w.Bits), w.Arb, w.Ack, e)
		}
	}
}

// P7.3

func TestNeverSixAlikeAheadOfTheDelimiter(t *testing.T) {
	all := frames()
	next := draw()
	for range 3000 {
		f := flagged(next()>>21, int(next()%4), make([]byte, sizes[next()%16]))
		for i := range f.Data {
			f.Data[i] = byte(next()) & byte(next())
		}
		all = append(all, f)
	}
	for _, f := range all {
		w, e := fd.Wire(f)
		if e != api.OK {
			t.Fatalf("%+v: %d", f, e)
		}
		ahead := w.Bits[:w.Ack-1]
		for _, b := range []byte{0, 1} {
			if bytes.Contains(ahead, bytes.Repeat([]byte{b}, 6)) {
				t.Fatalf("%+v: six %ds: %v", f, b, ahead)
			}
		}
	}
}

// wins holds that the first frame is dominant where both differ first, while both arbitrate.
func wins(t *testing.T, f, g api.Frame) {
	t.Helper()
	a, _ := fd.Wire(f)
	b, _ := fd.Wire(g)
	for i := range min(a.Arb, b.Arb) {
		if a.Bits[i] != b.Bits[i] {
			if a.Bits[i] != 0 {
				t.Fatalf("%+v loses against %+v at bit %d", f, g, i)
			}
			return
		}
	}
	t.Fatalf("%+v and %+v are one as long as both arbitrate", f, g)
}

func TestALowerIdentifierIsDominant(t *testing.T) {
	l := ids()
	for i, low := range l {
		for _, high := range l[i+1:] {
			// What stands behind the identifier doesn't matter.
			wins(t, flagged(low, 3, bytes.Repeat([]byte{255}, 20)), flagged(high, 0, nil))
			wins(t, flagged(low, 0, nil), flagged(high, 3, []byte{0}))
		}
	}
}

func TestEachIDWinsOverTheNext(t *testing.T) {
	for id := range uint32(2047) {
		wins(t, flagged(id, 3, []byte{255}), flagged(id+1, 0, nil))
	}
}

func TestOfOneIdentifierNothingThatArbitratesDiffers(t *testing.T) {
	for _, id := range ids() {
		a, _ := fd.Wire(flagged(id, 0, nil))
		b, _ := fd.Wire(flagged(id, 3, bytes.Repeat([]byte{255}, 64)))
		if a.Arb != b.Arb || !bytes.Equal(a.Bits[:a.Arb], b.Bits[:b.Arb]) {
			t.Errorf("%d: %v, %v", id, a.Bits[:a.Arb], b.Bits[:b.Arb])
		}
	}
}

// DOC.md's rules of lists, and of what answers hang on

// calls are the package's that take a frame, each with the list that it answers.
func calls() map[string]func(api.Frame) []byte {
	return map[string]func(api.Frame) []byte{
		"Body": func(f api.Frame) []byte { l, _ := fd.Body(f); return l },
		"Wire": func(f api.Frame) []byte { w, _ := fd.Wire(f); return w.Bits },
	}
}

func TestNilAndEmptyAreOne(t *testing.T) {
	for name, call := range calls() {
		for flags := range 4 {
			l := call(flagged(7, flags, nil))
			if len(l) == 0 || !bytes.Equal(l, call(flagged(7, flags, []byte{}))) {
				t.Errorf("%s, flags %d: nil and empty Data differ", name, flags)
			}
		}
	}
}

func TestWhatIsHandedInStays(t *testing.T) {
	for name, call := range calls() {
		for n := range 70 {
			room := bytes.Repeat([]byte{0xa7}, 100)
			before := bytes.Clone(room)
			out := call(flagged(5, 1, room[:n]))
			for i := range out[:cap(out)] {
				out[:cap(out)][i] = 9
			}
			if !bytes.Equal(room, before) {
				t.Errorf("%s of %d bytes: %v", name, n, room)
			}
		}
	}
}

func TestAnswersAreNew(t *testing.T) {
	for name, call := range calls() {
		for _, f := range frames()[:100] {
			first, second := call(f), call(f)
			want := bytes.Clone(second)
			if !bytes.Equal(first, want) {
				t.Errorf("%s of %+v: two answers", name, f)
			}
			for i := range first[:cap(first)] {
				first[:cap(first)][i] = 9
			}
			if !bytes.Equal(second, want) || !bytes.Equal(call(f), want) {
				t.Errorf("%s of %+v: two answers share memory", name, f)
			}
		}
	}
}
