package fixed_test

import (
	"bytes"
	"fmt"
	"math"
	"math/bits"
	"testing"

	"omnibus/api"
	"omnibus/fixed"
)

// row is a text's bits, told without the packages that are tested; blanks only part them.
func row(s string) []byte {
	var l []byte
	for _, c := range s {
		if c != ' ' {
			l = append(l, byte(c-'0'))
		}
	}
	return l
}

// mixed is a row of n bits without a short rule in them.
func mixed(n int) []byte {
	l := make([]byte, n)
	x := uint32(1)
	for i := range l {
		x = x*1664525 + 1013904223
		l[i] = byte(x >> 31)
	}
	return l
}

func same(b byte, n int) []byte {
	return bytes.Repeat([]byte{b}, n)
}

// rowsTo are all rows of at most so many bits.
func rowsTo(size int) [][]byte {
	var rows [][]byte
	for n := range size + 1 {
		for x := range 1 << n {
			l := make([]byte, n)
			for i := range l {
				l[i] = byte(x >> i & 1)
			}
			rows = append(rows, l)
		}
	}
	return rows
}

// waysTo are the ways with at most so many bits between two stuff bits, and those with the most that may be.
func waysTo(most int) []fixed.Way {
	var ways []fixed.Way
	for n := 1; n <= most; n++ {
		ways = append(ways, fixed.Way{Every: n}, fixed.Way{Every: n, Ahead: true})
	}
	if most < 64 {
		ways = append(ways, fixed.Way{Every: 63}, fixed.Way{Every: 63, Ahead: true}, fixed.Way{Every: 64}, fixed.Way{Every: 64, Ahead: true})
	}
	return ways
}

// noWays are ways that may not be.
func noWays() []fixed.Way {
	var ways []fixed.Way
	for _, n := range []int{0, -1, -4, 65, 66, 128, 1 << 40, 1<<32 + 4, math.MaxInt, math.MinInt} {
		ways = append(ways, fixed.Way{Every: n}, fixed.Way{Every: n, Ahead: true})
	}
	return ways
}

// noBits are rows that may not be.
func noBits() [][]byte {
	rows := [][]byte{{0, 2, 0}, {0, 1, 2}, {'0', '1'}, make([]byte, api.MaxBits+1), mixed(api.MaxBits + 1), mixed(2 * api.MaxBits)}
	for b := 2; b < 256; b++ {
		rows = append(rows, []byte{byte(b)})
	}
	late := mixed(api.MaxBits)
	late[len(late)-1] = 2
	// Of these the row's first bits alone are stuffed wrongly, or end with a stuff bit.
	return append(rows, late, append(same(1, 9), 2), []byte{1, 1, 1, 1, 0, 3}, []byte{0, 0, 0, 0, 1, 255})
}

// made is the raw bits by the chapter's words: for each bit's place it is asked whether a stuff bit is ahead of it.
func made(prev byte, l []byte, w fixed.Way) []byte {
	raw := []byte{prev}
	for i, b := range l {
		if i == 0 && w.Ahead || i > 0 && i%w.Every == 0 {
			raw = append(raw, 1-raw[len(raw)-1])
		}
		raw = append(raw, b)
	}
	return raw[1:]
}

// stuffAt says whether the raw bit of a place is a stuff bit.
func stuffAt(i int, w fixed.Way) bool {
	if w.Ahead {
		return i%(w.Every+1) == 0
	}
	return i%(w.Every+1) == w.Every
}

// told is Get by the chapter's words: all stuff bits are looked at by their places, then the last one, and what isn't one of them is a bit.
func told(prev byte, raw []byte, w fixed.Way) ([]byte, api.Errno) {
	var l []byte
	ahead := append([]byte{prev}, raw...)
	for i, b := range raw {
		if !stuffAt(i, w) {
			l = append(l, b)
		} else if b == ahead[i] {
			return nil, api.ErrStuff
		}
	}
	if len(raw) > 0 && stuffAt(len(raw)-1, w) {
		return nil, api.ErrMore
	}
	return l, api.OK
}

// P4.1: Size

func TestSize(t *testing.T) {
	for _, x := range []struct {
		n    int
		w    fixed.Way
		want int
	}{
		{0, fixed.Way{Every: 4}, 0},
		// Without a first bit there is no stuff bit ahead of it.
		{0, fixed.Way{Every: 4, Ahead: true}, 0},
		{1, fixed.Way{Every: 4}, 1},
		{1, fixed.Way{Every: 4, Ahead: true}, 2},
		{4, fixed.Way{Every: 4}, 4},
		{4, fixed.Way{Every: 4, Ahead: true}, 5},
		{5, fixed.Way{Every: 4}, 6},
		{5, fixed.Way{Every: 4, Ahead: true}, 7},
		{8, fixed.Way{Every: 4}, 9},
		{9, fixed.Way{Every: 4}, 11},
		{1, fixed.Way{Every: 1}, 1},
		{2, fixed.Way{Every: 1}, 3},
		{3, fixed.Way{Every: 1, Ahead: true}, 6},
		{10, fixed.Way{Every: 10}, 10},
		{11, fixed.Way{Every: 10}, 12},
		{64, fixed.Way{Every: 64}, 64},
		{65, fixed.Way{Every: 64}, 66},
		{65, fixed.Way{Every: 64, Ahead: true}, 67},
		// It tells of more raw bits than a row may have, too.
		{api.MaxBits, fixed.Way{Every: 1}, 2*api.MaxBits - 1},
		{api.MaxBits, fixed.Way{Every: 1, Ahead: true}, 2 * api.MaxBits},
		{api.MaxBits, fixed.Way{Every: 64}, api.MaxBits + 1023},
		{api.MaxBits, fixed.Way{Every: 64, Ahead: true}, api.MaxBits + 1024},
	} {
		if got, e := fixed.Size(x.n, x.w); got != x.want || e != api.OK {
			t.Errorf("%d, %v: %d, %d, wanted %d", x.n, x.w, got, e, x.want)
		}
	}
}

func TestSizeOfAllWays(t *testing.T) {
	for _, w := range waysTo(64) {
		for n := range 300 {
			want := len(made(0, make([]byte, n), w))
			if got, e := fixed.Size(n, w); got != want || e != api.OK {
				t.Fatalf("%d, %v: %d, %d, wanted %d", n, w, got, e, want)
			}
		}
	}
}

func TestSizeRefuses(t *testing.T) {
	for _, n := range []int{-1, -2, api.MaxBits + 1, 2 * api.MaxBits, 1 << 40, math.MaxInt, math.MinInt} {
		for _, w := range waysTo(5) {
			if got, e := fixed.Size(n, w); got != 0 || e != api.ErrArg {
				t.Errorf("%d, %v: %d, %d", n, w, got, e)
			}
		}
	}
	for _, w := range noWays() {
		for _, n := range []int{-1, 0, 1, 5, api.MaxBits, api.MaxBits + 1} {
			if got, e := fixed.Size(n, w); got != 0 || e != api.ErrArg {
				t.Errorf("%d, %v: %d, %d", n, w, got, e)
			}
		}
	}
}

// P4.1: Put

func TestPut(t *testing.T) {
	for _, x := range []struct {
		prev    byte
		l       string
		w       fixed.Way
		wantRaw string
	}{
		{1, "1111 1", fixed.Way{Every: 4, Ahead: true}, "0 1111 0 1"},
		{0, "1111 1", fixed.Way{Every: 4, Ahead: true}, "1 1111 0 1"},
		{1, "1111 1", fixed.Way{Every: 4}, "1111 0 1"},
		{0, "", fixed.Way{Every: 4}, ""},
		{0, "", fixed.Way{Every: 4, Ahead: true}, ""},
		{1, "0", fixed.Way{Every: 4}, "0"},
		{1, "0", fixed.Way{Every: 4, Ahead: true}, "0 0"},
		{0, "0", fixed.Way{Every: 64, Ahead: true}, "1 0"},
		// Behind the last bit there is none, be they as many as they may.
		{0, "0110", fixed.Way{Every: 4}, "0110"},
		{0, "0110 0110", fixed.Way{Every: 4}, "0110 1 0110"},
		{0, "0110 0110 0", fixed.Way{Every: 4}, "0110 1 0110 1 0"},
		// Each goes by the raw bit ahead of it, not by the one behind.
		{0, "0001 1", fixed.Way{Every: 4}, "0001 0 1"},
		{0, "0001 0", fixed.Way{Every: 4}, "0001 0 0"},
		{0, "1110 1", fixed.Way{Every: 4}, "1110 1 1"},
		{0, "111", fixed.Way{Every: 1}, "1 0 1 0 1"},
		{0, "000", fixed.Way{Every: 1}, "0 1 0 1 0"},
		{0, "000", fixed.Way{Every: 1, Ahead: true}, "1 0 1 0 1 0"},
		{0, "11111 11111 1", fixed.Way{Every: 10}, "1111111111 0 1"},
		{0, "11111 11111 1", fixed.Way{Every: 64}, "11111111111"},
	} {
		raw, e := fixed.Put(x.prev, row(x.l), x.w)
		if e != api.OK || !bytes.Equal(raw, row(x.wantRaw)) {
			t.Errorf("%d, %s, %v: %v, %d, wanted %s", x.prev, x.l, x.w, raw, e, x.wantRaw)
		}
	}
}

func TestPutOfAllShortRows(t *testing.T) {
	for _, w := range waysTo(10) {
		for _, l := range rowsTo(9) {
			for prev := range byte(2) {
				want := made(prev, l, w)
				if raw, e := fixed.Put(prev, l, w); e != api.OK || !bytes.Equal(raw, want) {
					t.Fatalf("%d, %v, %v: %v, %d, wanted %v", prev, l, w, raw, e, want)
				}
			}
		}
	}
}

func TestPutOfLongRows(t *testing.T) {
	for _, w := range waysTo(64) {
		for _, l := range [][]byte{mixed(64), mixed(65), mixed(999), same(0, 641), same(1, 641)} {
			want := made(1, l, w)
			if raw, e := fixed.Put(1, l, w); e != api.OK || !bytes.Equal(raw, want) {
				t.Fatalf("%d bits, %v: %d, %d, wanted %d", len(l), w, len(raw), e, len(want))
			}
		}
	}
}

// fullest are the most bits that have no more raw ones than MaxBits.
func fullest(w fixed.Way) int {
	n := 0
	for i := range api.MaxBits {
		if !stuffAt(i, w) {
			n++
		}
	}
	return n
}

func TestPutMakesAtMostMaxBits(t *testing.T) {
	for _, x := range []struct {
		w       fixed.Way
		n, raws int
	}{
		{fixed.Way{Every: 1}, 32768, api.MaxBits - 1},
		{fixed.Way{Every: 1, Ahead: true}, 32768, api.MaxBits},
		{fixed.Way{Every: 4}, 52429, api.MaxBits},
		{fixed.Way{Every: 4, Ahead: true}, 52428, api.MaxBits - 1},
		{fixed.Way{Every: 10, Ahead: true}, fullest(fixed.Way{Every: 10, Ahead: true}), api.MaxBits},
		{fixed.Way{Every: 64}, fullest(fixed.Way{Every: 64}), api.MaxBits},
		{fixed.Way{Every: 64, Ahead: true}, fullest(fixed.Way{Every: 64, Ahead: true}), api.MaxBits},
	} {
		for _, l := range [][]byte{same(0, x.n), same(1, x.n), mixed(x.n)} {
			raw, e := fixed.Put(0, l, x.w)
			if e != api.OK || len(raw) != x.raws || !bytes.Equal(raw, made(0, l, x.w)) {
				t.Errorf("%d bits, %v: %d, %d, wanted %d", x.n, x.w, len(raw), e, x.raws)
			}
		}
		for _, n := range []int{x.n + 1, x.n + 2, api.MaxBits} {
			for _, l := range [][]byte{same(0, n), same(1, n), mixed(n)} {
				if raw, e := fixed.Put(0, l, x.w); e != api.ErrArg || len(raw) != 0 {
					t.Errorf("%d bits, %v: %d, %d", n, x.w, len(raw), e)
				}
			}
		}
	}
}

// refusals holds that a call refuses what none of Put and Get takes.
func refusals(t *testing.T, call func(byte, []byte, fixed.Way) ([]byte, api.Errno)) {
	t.Helper()
	refused := func(prev byte, l []byte, w fixed.Way) {
		t.Helper()
		if out, e := call(prev, l, w); e != api.ErrArg || len(out) != 0 {
			t.Errorf("%d, %d bytes, %v: %d bytes, %d", prev, len(l), w, len(out), e)
		}
	}
	rows := [][]byte{nil, {}, {0}, {1}, {1, 1, 1, 1, 1}, {1, 1, 1, 1, 0}, {0, 2}}
	for _, l := range rows {
		for prev := 2; prev < 256; prev++ {
			refused(byte(prev), l, fixed.Way{Every: 4})
			refused(byte(prev), l, fixed.Way{Every: 4, Ahead: true})
		}
		for _, w := range noWays() {
			refused(0, l, w)
			refused(1, l, w)
			refused(2, l, w)
		}
	}
	for _, l := range noBits() {
		for _, w := range []fixed.Way{{Every: 4}, {Every: 4, Ahead: true}, {Every: 64}, {Every: 1}} {
			refused(0, l, w)
			refused(1, l, w)
		}
	}
}

func TestPutRefuses(t *testing.T) {
	refusals(t, fixed.Put)
}

// P4.1: Get

func TestGet(t *testing.T) {
	for _, x := range []struct {
		prev byte
		raw  string
		w    fixed.Way
		bits string
		e    api.Errno
	}{
		{1, "0 1111 0 1", fixed.Way{Every: 4, Ahead: true}, "11111", api.OK},
		{0, "1111 0 1", fixed.Way{Every: 4}, "11111", api.OK},
		{0, "", fixed.Way{Every: 4}, "", api.OK},
		{0, "", fixed.Way{Every: 4, Ahead: true}, "", api.OK},
		{0, "0", fixed.Way{Every: 1}, "0", api.OK},
		{0, "0110", fixed.Way{Every: 4}, "0110", api.OK},
		{0, "0110 1 0", fixed.Way{Every: 4}, "01100", api.OK},
		{0, "1 0 1 0 1", fixed.Way{Every: 1}, "111", api.OK},
		// A stuff bit is held against the raw bit ahead of it, or what is ahead of all.
		{1, "1 1111", fixed.Way{Every: 4, Ahead: true}, "", api.ErrStuff},
		{0, "0 1111", fixed.Way{Every: 4, Ahead: true}, "", api.ErrStuff},
		{0, "0110 0 1", fixed.Way{Every: 4}, "", api.ErrStuff},
		{0, "1111 1 0", fixed.Way{Every: 4}, "", api.ErrStuff},
		{0, "0 1 1 1 1", fixed.Way{Every: 1}, "", api.ErrStuff},
		// The last one.
		{0, "0110 1", fixed.Way{Every: 4}, "", api.ErrMore},
		{1, "0", fixed.Way{Every: 4, Ahead: true}, "", api.ErrMore},
		{1, "0 1111 0", fixed.Way{Every: 4, Ahead: true}, "", api.ErrMore},
		{0, "1 0", fixed.Way{Every: 1}, "", api.ErrMore},
		// It is a stuff bit only if it is the other one.
		{0, "0110 0", fixed.Way{Every: 4}, "", api.ErrStuff},
		{0, "0", fixed.Way{Every: 4, Ahead: true}, "", api.ErrStuff},
		{0, "1 1", fixed.Way{Every: 1}, "", api.ErrStuff},
		// What is wrong ahead of a last stuff bit is told first.
		{0, "0110 0 0110 1", fixed.Way{Every: 4}, "", api.ErrStuff},
		{1, "1 1111 0", fixed.Way{Every: 4, Ahead: true}, "", api.ErrStuff},
	} {
		l, e := fixed.Get(x.prev, row(x.raw), x.w)
		if e != x.e || !bytes.Equal(l, row(x.bits)) {
			t.Errorf("%d, %s, %v: %v, %d, wanted %s, %d", x.prev, x.raw, x.w, l, e, x.bits, x.e)
		}
	}
}

func TestGetOfAllShortRows(t *testing.T) {
	for _, w := range waysTo(10) {
		for _, raw := range rowsTo(11) {
			for prev := range byte(2) {
				want, err := told(prev, raw, w)
				if l, e := fixed.Get(prev, raw, w); e != err || !bytes.Equal(l, want) {
					t.Fatalf("%d, %v, %v: %v, %d, wanted %v, %d", prev, raw, w, l, e, want, err)
				}
			}
		}
	}
}

func TestGetOfLongRows(t *testing.T) {
	for _, w := range waysTo(10) {
		raw := made(0, mixed(fullest(w)), w)
		for n := api.MaxBits - 12; n <= len(raw); n++ {
			want, err := told(0, raw[:n], w)
			if l, e := fixed.Get(0, raw[:n], w); e != err || !bytes.Equal(l, want) {
				t.Fatalf("%d raw bits, %v: %d, %d, wanted %d, %d", n, w, len(l), e, len(want), err)
			}
		}
	}
}

// TestGetOfAFullRow: a row of MaxBits that ends with a stuff bit is still looked at.
func TestGetOfAFullRow(t *testing.T) {
	w := fixed.Way{Every: 1}
	raw := made(0, same(1, 40000), w)[:api.MaxBits]
	if l, e := fixed.Get(0, raw, w); e != api.ErrMore || len(l) != 0 {
		t.Error(len(l), e)
	}
	raw[len(raw)-1] ^= 1
	if l, e := fixed.Get(0, raw, w); e != api.ErrStuff || len(l) != 0 {
		t.Error(len(l), e)
	}
}

func TestGetRefuses(t *testing.T) {
	refusals(t, fixed.Get)
}

// P4.2: Tally

// tallies are those of the numbers from 0 to 7: a Gray code, and the bit that makes the ones even.
var tallies = []string{"0000", "0011", "0110", "0101", "1100", "1111", "1010", "1001"}

func TestTally(t *testing.T) {
	for n := range 1000 {
		l, e := fixed.Tally(n)
		if e != api.OK || !bytes.Equal(l, row(tallies[n%8])) {
			t.Errorf("%d: %v, %d, wanted %s", n, l, e, tallies[n%8])
		}
	}
}

func TestTallyOfGreatNumbers(t *testing.T) {
	for _, n := range []int{api.MaxBits, 1 << 20, 1<<31 - 1, 1 << 31, 1<<32 + 5, 1 << 40, math.MaxInt - 3, math.MaxInt} {
		l, e := fixed.Tally(n)
		if e != api.OK || !bytes.Equal(l, row(tallies[n%8])) {
			t.Errorf("%d: %v, %d, wanted %s", n, l, e, tallies[n%8])
		}
	}
}

func TestTallyRefuses(t *testing.T) {
	for _, n := range []int{-1, -2, -7, -8, -9, -1 << 32, math.MinInt} {
		if l, e := fixed.Tally(n); e != api.ErrArg || len(l) != 0 {
			t.Errorf("%d: %v, %d", n, l, e)
		}
	}
}

// P4.2: Tells

func TestTells(t *testing.T) {
	for n, s := range tallies {
		if got, e := fixed.Tells(row(s)); got != n || e != api.OK {
			t.Errorf("%s: %d, %d, wanted %d", s, got, e, n)
		}
	}
}

func TestTellsRefusesAnOddNumberOfOnes(t *testing.T) {
	for _, l := range rowsTo(4) {
		if len(l) < 4 || bytes.Count(l, []byte{1})%2 == 0 {
			continue
		}
		if n, e := fixed.Tells(l); n != 0 || e != api.ErrCrc {
			t.Errorf("%v: %d, %d", l, n, e)
		}
	}
}

func TestTellsRefuses(t *testing.T) {
	rows := append(noBits(), nil, []byte{}, mixed(8), mixed(64), mixed(api.MaxBits))
	for _, l := range rowsTo(6) {
		if len(l) != 4 {
			rows = append(rows, l)
		}
	}
	// Four bytes, of which one isn't a bit, whatever they would tell.
	for i := range 4 {
		for _, b := range []byte{2, 3, '0', '1', 255} {
			for _, s := range []string{"0000", "1111", "0110", "0001"} {
				l := row(s)
				l[i] = b
				rows = append(rows, l)
			}
		}
	}
	for _, l := range rows {
		if n, e := fixed.Tells(l); n != 0 || e != api.ErrArg {
			t.Errorf("%d bytes: %d, %d", len(l), n, e)
		}
	}
}

// P4.3

// holds puts a row, and gets it, by as many raw bits as Size tells.
func holds(t *testing.T, prev byte, l []byte, w fixed.Way) {
	t.Helper()
	raw, e := fixed.Put(prev, l, w)
	n, f := fixed.Size(len(l), w)
	if e != api.OK || f != api.OK || n != len(raw) {
		t.Fatalf("%d bits, %v: %d, %d, %d", len(l), w, n, e, f)
	}
	back, e := fixed.Get(prev, raw, w)
	if e != api.OK || !bytes.Equal(back, l) {
		t.Fatalf("%d bits, %v: %d came back, %d", len(l), w, len(back), e)
	}
}

func TestWhatIsPutIsGot(t *testing.T) {
	for _, w := range waysTo(10) {
		for _, l := range rowsTo(9) {
			holds(t, 0, l, w)
			holds(t, 1, l, w)
		}
	}
	for _, w := range waysTo(64) {
		holds(t, 0, mixed(999), w)
		holds(t, 1, mixed(999), w)
	}
	for _, w := range waysTo(5) {
		most := fullest(w)
		for _, l := range [][]byte{mixed(most), same(0, most), same(1, most)} {
			holds(t, 0, l, w)
			holds(t, 1, l, w)
		}
	}
}

func TestATurnedStuffBitIsTold(t *testing.T) {
	for _, w := range waysTo(64) {
		for _, l := range [][]byte{{0}, {1}, mixed(2), mixed(65), mixed(66), same(0, 200), same(1, 200), mixed(400)} {
			raw, _ := fixed.Put(1, l, w)
			for i := range raw {
				if !stuffAt(i, w) {
					continue
				}
				raw[i] ^= 1
				if back, e := fixed.Get(1, raw, w); e != api.ErrStuff || len(back) != 0 {
					t.Fatalf("%d bits, %v, the raw bit %d: %d, %d", len(l), w, i, len(back), e)
				}
				raw[i] ^= 1
			}
		}
	}
}

// TestATurnedBitAheadIsTold: the first stuff bit goes by it.
func TestATurnedBitAheadIsTold(t *testing.T) {
	for _, w := range waysTo(64) {
		raw, _ := fixed.Put(1, mixed(100), w)
		want := api.OK
		if w.Ahead {
			want = api.ErrStuff
		}
		if _, e := fixed.Get(0, raw, w); e != want {
			t.Errorf("%v: %d, wanted %d", w, e, want)
		}
	}
}

// asNumber is the four bits of a tally, the first one the highest.
func asNumber(t *testing.T, n int) uint {
	t.Helper()
	l, e := fixed.Tally(n)
	if e != api.OK || len(l) != 4 {
		t.Fatal(n, l, e)
	}
	return uint(l[0])<<3 | uint(l[1])<<2 | uint(l[2])<<1 | uint(l[3])
}

func TestTalliesOfNeighboursDifferInTwoBits(t *testing.T) {
	pairs := []int{1<<31 - 1, 1 << 31, 1<<32 - 1, math.MaxInt - 1}
	for n := range 100 {
		pairs = append(pairs, n)
	}
	for _, n := range pairs {
		a, b := asNumber(t, n), asNumber(t, n+1)
		if bits.OnesCount(a^b) != 2 {
			t.Errorf("%d and the next: %04b, %04b", n, a, b)
		}
	}
}

func TestATallyTellsItsNumber(t *testing.T) {
	for n := range 100 {
		l, _ := fixed.Tally(n)
		if got, e := fixed.Tells(l); got != n%8 || e != api.OK {
			t.Errorf("%d: %d, %d", n, got, e)
		}
		for i := range l {
			l[i] ^= 1
			if got, e := fixed.Tells(l); got != 0 || e != api.ErrCrc {
				t.Errorf("%d, its bit %d turned: %d, %d", n, i, got, e)
			}
			l[i] ^= 1
		}
	}
}

// DOC.md's rules of lists, and of what answers hang on

// calls are the package's, each with the list that it answers, if it does.
func calls() map[string]func([]byte) []byte {
	calls := map[string]func([]byte) []byte{
		"Tally": func([]byte) []byte { out, _ := fixed.Tally(5); return out },
		"Tells": func(l []byte) []byte { fixed.Tells(l); return nil },
	}
	for _, w := range []fixed.Way{{Every: 4}, {Every: 4, Ahead: true}, {Every: 64}} {
		name := fmt.Sprint(w)
		calls["Put "+name] = func(l []byte) []byte { out, _ := fixed.Put(1, l, w); return out }
		calls["Get "+name] = func(l []byte) []byte { out, _ := fixed.Get(1, l, w); return out }
	}
	return calls
}

func TestNilAndEmptyAreOne(t *testing.T) {
	for _, l := range [][]byte{nil, {}} {
		for _, w := range waysTo(10) {
			if raw, e := fixed.Put(0, l, w); e != api.OK || len(raw) != 0 {
				t.Error("Put", w, raw, e)
			}
			if back, e := fixed.Get(0, l, w); e != api.OK || len(back) != 0 {
				t.Error("Get", w, back, e)
			}
		}
		if n, e := fixed.Tells(l); e != api.ErrArg || n != 0 {
			t.Error("Tells", n, e)
		}
	}
}

func TestWhatIsHandedInStays(t *testing.T) {
	for name, call := range calls() {
		for _, s := range []string{"0110 1 0011", "1111 0 1111 0 1", "0 0110 1 0", "0 1111 1", "0110", "0", "1"} {
			room := append(row(s), bytes.Repeat([]byte{7}, 40)...)
			before := bytes.Clone(room)
			out := call(room[:len(row(s))])
			if !bytes.Equal(room, before) {
				t.Errorf("%s: %v", name, room)
			}
			for i := range out[:cap(out)] {
				out[:cap(out)][i] = 9
			}
			if !bytes.Equal(room, before) {
				t.Errorf("%s: the answer shares memory with what was handed in", name)
			}
		}
	}
}

func TestAnswersAreNew(t *testing.T) {
	for name, call := range calls() {
		for _, s := range []string{"0110 1 0011 0 1", "0 1111 0 1", "0110"} {
			first, second := call(row(s)), call(row(s))
			if !bytes.Equal(first, second) {
				t.Errorf("%s: two answers to one row", name)
			}
			want := bytes.Clone(second)
			for i := range first[:cap(first)] {
				first[:cap(first)][i] = 9
			}
			if !bytes.Equal(second, want) || !bytes.Equal(call(row(s)), want) {
				t.Errorf("%s: two answers share memory", name)
			}
		}
	}
}
