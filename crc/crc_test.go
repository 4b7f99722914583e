package crc_test

import (
	"bytes"
	"math"
	"testing"

	"omnibus/api"
	"omnibus/bits"
	"omnibus/crc"
)

// kind is what the document tells of one, written down a second time, so that a slip in the program's table is seen.
type kind struct {
	no, size    int
	poly, start uint64
}

func kinds() []kind {
	return []kind{
		{crc.C15, 15, 0x4599, 0},
		{crc.C17, 17, 0x1685B, 0x10000},
		{crc.C21, 21, 0x102899, 0x100000},
		{crc.P13, 13, 0x19E7, 1},
		{crc.F32, 32, 0xF4ACFB13, 1},
	}
}

// noKinds are numbers that no kind has.
func noKinds() []int {
	return []int{0, 6, -1, 7, 15, 32, 255, -5, 1<<32 + 1, 1<<40 + 5, math.MaxInt, math.MinInt}
}

// noBits are rows that may not be.
func noBits() [][]byte {
	rows := [][]byte{{0, 2, 0}, {0, 1, 2}, {'0', '1'}, make([]byte, api.MaxBits+1), make([]byte, 2*api.MaxBits)}
	for b := 2; b < 256; b++ {
		rows = append(rows, []byte{byte(b)})
	}
	late := mixed(api.MaxBits)
	late[len(late)-1] = 2
	long := make([]byte, 40)
	long[39] = 2
	early := make([]byte, 40)
	early[0] = 2
	return append(rows, late, long, early)
}

// mixed is a row of n bits without a short rule in them.
func mixed(n int) []byte {
	return mixedFrom(1, n)
}

func mixedFrom(x uint32, n int) []byte {
	l := make([]byte, n)
	for i := range l {
		x = x*1664525 + 1013904223
		l[i] = byte(x >> 31)
	}
	return l
}

// row is a number's bits, told without the packages that are tested.
func row(n uint64, size int) []byte {
	l := make([]byte, size)
	for i := range l {
		l[i] = byte(n >> (size - 1 - i) & 1)
	}
	return l
}

// divide is the sum as what a long division leaves: the row, with size zeros behind, and the start turned into its first bits, is divided by the polynomial with its highest term.
func divide(k kind, from uint64, l []byte) []byte {
	rest := append(bytes.Clone(l), make([]byte, k.size)...)
	turn(rest, row(from, k.size))
	by := append([]byte{1}, row(k.poly, k.size)...)
	for i := range l {
		if rest[i] == 1 {
			turn(rest[i:], by)
		}
	}
	return rest[len(l):]
}

func turn(l, by []byte) {
	for i, b := range by {
		l[i] ^= b
	}
}

func number(l []byte) uint64 {
	n := uint64(0)
	for _, b := range l {
		n = n<<1 | uint64(b)
	}
	return n
}

func lengths() []int {
	l := []int{1000, 4099, api.MaxBits - 1, api.MaxBits}
	for n := range 100 {
		l = append(l, n)
	}
	return l
}

// P2.1

func TestKindsHaveTheirNumbers(t *testing.T) {
	if crc.C15 != 1 || crc.C17 != 2 || crc.C21 != 3 || crc.P13 != 4 || crc.F32 != 5 {
		t.Error(crc.C15, crc.C17, crc.C21, crc.P13, crc.F32)
	}
}

func TestSize(t *testing.T) {
	for _, k := range kinds() {
		if n := crc.Size(k.no); n != k.size {
			t.Errorf("kind %d: %d", k.no, n)
		}
	}
	for _, no := range noKinds() {
		if n := crc.Size(no); n != 0 {
			t.Errorf("no kind %d: %d", no, n)
		}
	}
}

func TestSumOfNothingIsTheStart(t *testing.T) {
	for _, k := range kinds() {
		for _, l := range [][]byte{nil, {}} {
			if n, e := crc.Sum(k.no, l); n != k.start || e != api.OK {
				t.Errorf("kind %d: %x, %d", k.no, n, e)
			}
		}
	}
}

func TestSumOfOneBit(t *testing.T) {
	// By hand: the polynomial goes in where the start's highest bit isn't the bit that comes.
	for _, x := range []struct {
		kind      int
		bit       byte
		wanted    uint64
		described string
	}{
		{crc.C15, 1, 0x4599, "0 moved, and turned"},
		{crc.C15, 0, 0, "0 moved"},
		{crc.C17, 1, 0, "the highest bit is lost"},
		{crc.C17, 0, 0x1685B, "the highest bit is lost, and turned"},
		{crc.C21, 1, 0, "the highest bit is lost"},
		{crc.C21, 0, 0x102899, "the highest bit is lost, and turned"},
		{crc.P13, 1, 0x19E5, "1 moved, and turned"},
		{crc.P13, 0, 2, "1 moved"},
		{crc.F32, 1, 0xF4ACFB11, "1 moved, and turned"},
		{crc.F32, 0, 2, "1 moved"},
	} {
		if n, e := crc.Sum(x.kind, []byte{x.bit}); n != x.wanted || e != api.OK {
			t.Errorf("kind %d, bit %d (%s): %x, %d", x.kind, x.bit, x.described, n, e)
		}
	}
}

func TestSumIsWhatADivisionLeaves(t *testing.T) {
	for _, k := range kinds() {
		for _, size := range lengths() {
			for _, l := range [][]byte{mixed(size), make([]byte, size), bytes.Repeat([]byte{1}, size)} {
				wanted := number(divide(k, k.start, l))
				if n, e := crc.Sum(k.no, l); n != wanted || e != api.OK {
					t.Errorf("kind %d, %d bits: %x, %d, wanted %x", k.no, size, n, e, wanted)
				}
			}
		}
	}
}

func TestSumOfAllShortRows(t *testing.T) {
	for _, k := range kinds() {
		for size := range 9 {
			for n := range uint64(1) << size {
				l := row(n, size)
				wanted := number(divide(k, k.start, l))
				if sum, e := crc.Sum(k.no, l); sum != wanted || e != api.OK {
					t.Fatalf("kind %d, %v: %x, %d, wanted %x", k.no, l, sum, e, wanted)
				}
			}
		}
	}
}

func TestPublishedSums(t *testing.T) {
	l := bits.Bytes([]byte("123456789"))
	// The published ones of C17 and C21 are those of a start of 0.
	for no, wanted := range map[int]uint64{crc.C15: 0x059e, crc.C17: 0x04f03, crc.C21: 0x0ed841} {
		if n, e := crc.More(no, 0, l); n != wanted || e != api.OK {
			t.Errorf("kind %d: %x, %d", no, n, e)
		}
	}
}

func TestSumRefuses(t *testing.T) {
	for _, no := range noKinds() {
		for _, l := range [][]byte{nil, {}, {1}, mixed(100), {2}, make([]byte, api.MaxBits+1)} {
			if n, e := crc.Sum(no, l); n != 0 || e != api.ErrArg {
				t.Errorf("no kind %d, %d bytes: %x, %d", no, len(l), n, e)
			}
		}
	}
	for _, k := range kinds() {
		for _, l := range noBits() {
			if n, e := crc.Sum(k.no, l); n != 0 || e != api.ErrArg {
				t.Errorf("kind %d, %d bytes: %x, %d", k.no, len(l), n, e)
			}
		}
	}
}

func TestMoreGoesOnFromAnySum(t *testing.T) {
	for _, k := range kinds() {
		most := uint64(1)<<k.size - 1
		for _, from := range []uint64{0, 1, 2, k.start, k.poly, most / 3, most/2 + 1, most - 1, most} {
			for _, size := range lengths() {
				l := mixed(size)
				wanted := number(divide(k, from, l))
				if n, e := crc.More(k.no, from, l); n != wanted || e != api.OK {
					t.Errorf("kind %d, from %x, %d bits: %x, %d, wanted %x", k.no, from, size, n, e, wanted)
				}
			}
			if n, e := crc.More(k.no, from, nil); n != from || e != api.OK {
				t.Errorf("kind %d, from %x, no bits: %x, %d", k.no, from, n, e)
			}
		}
	}
}

func TestMoreRefuses(t *testing.T) {
	for _, k := range kinds() {
		for _, from := range []uint64{1 << k.size, 1<<k.size + 1, 1 << (k.size + 1), 1 << 63, math.MaxUint64, math.MaxUint64 << k.size} {
			for _, l := range [][]byte{nil, {}, {1}, mixed(100), {2}} {
				if n, e := crc.More(k.no, from, l); n != 0 || e != api.ErrArg {
					t.Errorf("kind %d, from %x: %x, %d", k.no, from, n, e)
				}
			}
		}
		for _, l := range noBits() {
			for _, from := range []uint64{0, 1, k.start} {
				if n, e := crc.More(k.no, from, l); n != 0 || e != api.ErrArg {
					t.Errorf("kind %d, from %x, %d bytes: %x, %d", k.no, from, len(l), n, e)
				}
			}
		}
	}
	for _, no := range noKinds() {
		for _, from := range []uint64{0, 1, math.MaxUint64} {
			for _, l := range [][]byte{nil, {1}, {2}} {
				if n, e := crc.More(no, from, l); n != 0 || e != api.ErrArg {
					t.Errorf("no kind %d, from %x: %x, %d", no, from, n, e)
				}
			}
		}
	}
}

// P2.2

func TestAdd(t *testing.T) {
	for _, k := range kinds() {
		for _, size := range lengths() {
			l := mixed(size)
			wanted := append(bytes.Clone(l), divide(k, k.start, l)...)
			if got, e := crc.Add(k.no, l); !bytes.Equal(got, wanted) || e != api.OK {
				t.Errorf("kind %d, %d bits: %d bits, %d", k.no, size, len(got), e)
			}
		}
	}
}

func TestAddToNothing(t *testing.T) {
	for _, k := range kinds() {
		for _, l := range [][]byte{nil, {}} {
			if got, e := crc.Add(k.no, l); !bytes.Equal(got, row(k.start, k.size)) || e != api.OK {
				t.Errorf("kind %d: %v, %d", k.no, got, e)
			}
		}
	}
}

func TestAddRefuses(t *testing.T) {
	for _, no := range noKinds() {
		for _, l := range [][]byte{nil, {1}, mixed(100), {2}} {
			if got, e := crc.Add(no, l); len(got) != 0 || e != api.ErrArg {
				t.Errorf("no kind %d: %v, %d", no, got, e)
			}
		}
	}
	for _, k := range kinds() {
		for _, l := range noBits() {
			if got, e := crc.Add(k.no, l); len(got) != 0 || e != api.ErrArg {
				t.Errorf("kind %d, %d bytes: %d bits, %d", k.no, len(l), len(got), e)
			}
		}
	}
}

func TestFits(t *testing.T) {
	for _, k := range kinds() {
		for _, size := range lengths() {
			l := mixed(size)
			whole := append(l, divide(k, k.start, l)...)
			// A row with its sum may be longer than a row may be; then it isn't one.
			if got := crc.Fits(k.no, whole); got != (len(whole) <= api.MaxBits) {
				t.Errorf("kind %d, %d bits: %t", k.no, len(whole), got)
			}
		}
	}
}

func TestFitsAtMostMaxBits(t *testing.T) {
	for _, k := range kinds() {
		for more, wanted := range map[int]bool{-1: true, 0: true, 1: false, 2: false} {
			l := mixed(api.MaxBits - k.size + more)
			whole := append(l, divide(k, k.start, l)...)
			if got := crc.Fits(k.no, whole); got != wanted {
				t.Errorf("kind %d, %d bits: %t", k.no, len(whole), got)
			}
		}
	}
}

func TestFitsOfShortRows(t *testing.T) {
	for _, k := range kinds() {
		for size := range k.size {
			for _, l := range [][]byte{make([]byte, size), mixed(size), row(k.start, k.size)[k.size-size:]} {
				if crc.Fits(k.no, l) {
					t.Errorf("kind %d, %d bits", k.no, size)
				}
			}
		}
		if crc.Fits(k.no, nil) {
			t.Errorf("kind %d, nil", k.no)
		}
		// The sum of no bits is the start.
		if !crc.Fits(k.no, row(k.start, k.size)) || crc.Fits(k.no, row(k.start^1, k.size)) {
			t.Errorf("kind %d, the start alone", k.no)
		}
		if got := crc.Fits(k.no, make([]byte, k.size)); got != (k.start == 0) {
			t.Errorf("kind %d, zeros: %t", k.no, got)
		}
	}
}

func TestFitsRefuses(t *testing.T) {
	for _, no := range noKinds() {
		for _, l := range [][]byte{nil, {}, {0}, {1}, make([]byte, 15), make([]byte, 32), mixed(100), {2}} {
			if crc.Fits(no, l) {
				t.Errorf("no kind %d, %d bytes", no, len(l))
			}
		}
	}
	for _, k := range kinds() {
		for _, l := range noBits() {
			if crc.Fits(k.no, l) {
				t.Errorf("kind %d, %d bytes", k.no, len(l))
			}
		}
		l := mixed(40)
		whole := append(l, divide(k, k.start, l)...)
		for i := range whole {
			was := whole[i]
			// Of these the lowest bit alone would be the right one.
			for _, b := range []byte{was + 2, was + 254, was + '0'} {
				whole[i] = b
				if crc.Fits(k.no, whole) {
					t.Errorf("kind %d, a %d at %d", k.no, b, i)
				}
			}
			whole[i] = was
		}
	}
}

func TestFitsIsOfTheKind(t *testing.T) {
	l := mixed(200)
	for _, k := range kinds() {
		whole, _ := crc.Add(k.no, l)
		for _, other := range kinds() {
			if got := crc.Fits(other.no, whole); got != (other.no == k.no) {
				t.Errorf("a row of kind %d as one of kind %d: %t", k.no, other.no, got)
			}
		}
	}
}

// P2.3

func TestSumsGoOnFromRowToRow(t *testing.T) {
	for _, k := range kinds() {
		l := mixed(150)
		wanted, _ := crc.Sum(k.no, l)
		for at := range len(l) + 1 {
			first, e := crc.Sum(k.no, l[:at])
			both, f := crc.More(k.no, first, l[at:])
			if both != wanted || e != api.OK || f != api.OK {
				t.Errorf("kind %d, parted at %d: %x, %d, %d", k.no, at, both, e, f)
			}
		}
		sum := k.start
		for _, b := range l {
			sum, _ = crc.More(k.no, sum, []byte{b})
		}
		if sum != wanted {
			t.Errorf("kind %d, bit by bit: %x", k.no, sum)
		}
	}
}

func TestSumsGoOnBeyondARow(t *testing.T) {
	for _, k := range kinds() {
		first, _ := crc.Sum(k.no, mixedFrom(1, api.MaxBits))
		both, e := crc.More(k.no, first, mixedFrom(2, api.MaxBits))
		wanted := number(divide(k, k.start, append(mixedFrom(1, api.MaxBits), mixedFrom(2, api.MaxBits)...)))
		if both != wanted || e != api.OK {
			t.Errorf("kind %d: %x, %d, wanted %x", k.no, both, e, wanted)
		}
	}
}

func TestSumsOfRowsAsLongBelongTogether(t *testing.T) {
	for _, k := range kinds() {
		for _, size := range []int{0, 1, 7, 33, 500, api.MaxBits} {
			a, b := mixedFrom(3, size), mixedFrom(5, size)
			both := bytes.Clone(a)
			turn(both, b)
			none, _ := crc.Sum(k.no, make([]byte, size))
			x, _ := crc.Sum(k.no, a)
			y, _ := crc.Sum(k.no, b)
			if n, e := crc.Sum(k.no, both); n != x^y^none || e != api.OK {
				t.Errorf("kind %d, %d bits: %x, %d, wanted %x", k.no, size, n, e, x^y^none)
			}
		}
	}
}

func TestARowWithItsSumFitsAndDoesNotWithOneBitTurned(t *testing.T) {
	for _, k := range kinds() {
		for _, size := range []int{0, 1, 20, 300} {
			whole, e := crc.Add(k.no, mixed(size))
			if e != api.OK || !crc.Fits(k.no, whole) {
				t.Errorf("kind %d, %d bits: %d", k.no, size, e)
			}
			for i := range whole {
				whole[i] ^= 1
				if crc.Fits(k.no, whole) {
					t.Errorf("kind %d, %d bits, one turned at %d", k.no, size, i)
				}
				whole[i] ^= 1
			}
		}
	}
}

// DOC.md's rules of lists

func TestWhatIsHandedInStays(t *testing.T) {
	for _, k := range kinds() {
		room := bytes.Repeat([]byte{7}, 200)
		copy(room, mixed(100))
		before := bytes.Clone(room)
		l := room[:100]
		crc.Sum(k.no, l)
		crc.More(k.no, 1, l)
		crc.Fits(k.no, l)
		out, _ := crc.Add(k.no, l)
		if !bytes.Equal(room, before) {
			t.Errorf("kind %d: changed", k.no)
		}
		for i := range out[:cap(out)] {
			out[:cap(out)][i] = 9
		}
		if !bytes.Equal(room, before) {
			t.Errorf("kind %d: what Add answers shares memory with what it took", k.no)
		}
	}
}

func TestAnswersAreNew(t *testing.T) {
	for _, k := range kinds() {
		for _, l := range [][]byte{nil, mixed(30)} {
			first, _ := crc.Add(k.no, l)
			second, _ := crc.Add(k.no, l)
			wanted := bytes.Clone(second)
			for i := range first[:cap(first)] {
				first[:cap(first)][i] = 9
			}
			if len(second) == 0 || !bytes.Equal(second, wanted) {
				t.Errorf("kind %d: two answers share memory", k.no)
			}
		}
	}
}
