package bits_test

import (
	"bytes"
	"math"
	"strconv"
	"strings"
	"testing"

	"omnibus/api"
	"omnibus/bits"
)

// bin is a number's digits to base 2, as many as size.
func bin(n uint64, size int) string {
	if size == 0 {
		return ""
	}
	s := strconv.FormatUint(n, 2)
	return strings.Repeat("0", size-len(s)) + s
}

// row is a text's bits, told without the package that is tested.
func row(s string) []byte {
	var l []byte
	for _, c := range s {
		l = append(l, byte(c-'0'))
	}
	return l
}

// mixed is a row of n bits without a short rule in them.
func mixed(n int) []byte {
	l := make([]byte, n)
	x := uint32(1)
	for i := range l {
		x = x*1664525 + 1013904223
		l[i] = byte(x >> 31)
	}
	return l
}

// P1.1

func TestCheckTakesBits(t *testing.T) {
	for _, l := range [][]byte{nil, {}, {0}, {1}, {0, 1, 1, 0}, mixed(api.MaxBits - 1), mixed(api.MaxBits)} {
		if e := bits.Check(l); e != api.OK {
			t.Errorf("%d bits: %d", len(l), e)
		}
	}
}

func TestCheckRefusesTheRest(t *testing.T) {
	for b := 2; b < 256; b++ {
		if e := bits.Check([]byte{0, byte(b), 1}); e != api.ErrArg {
			t.Errorf("byte %d: %d", b, e)
		}
	}
	for at := range 3 {
		l := []byte{0, 1, 0}
		l[at] = 2
		if e := bits.Check(l); e != api.ErrArg {
			t.Errorf("a 2 at %d: %d", at, e)
		}
	}
	for _, n := range []int{api.MaxBits + 1, 2 * api.MaxBits} {
		if e := bits.Check(make([]byte, n)); e != api.ErrArg {
			t.Errorf("%d bits: %d", n, e)
		}
	}
	l := mixed(api.MaxBits)
	l[len(l)-1] = 2
	if e := bits.Check(l); e != api.ErrArg {
		t.Errorf("the last byte is none: %d", e)
	}
}

func TestPut(t *testing.T) {
	for size := range 65 {
		most := uint64(math.MaxUint64)
		if size < 64 {
			most = 1<<size - 1
		}
		for _, n := range []uint64{0, 1, 5, most / 3, most/2 + 1, most} {
			if n > most {
				continue
			}
			l, e := bits.Put(n, size)
			if e != api.OK || !bytes.Equal(l, row(bin(n, size))) {
				t.Errorf("Put(%d, %d): %v, %d", n, size, l, e)
			}
		}
	}
}

func TestPutRefuses(t *testing.T) {
	type call struct {
		n    uint64
		size int
	}
	calls := []call{{0, -1}, {1, -1}, {0, 65}, {1, 65}, {math.MaxUint64, 128}, {0, math.MaxInt}, {0, math.MinInt}}
	for size := range 64 {
		calls = append(calls, call{1 << size, size}, call{math.MaxUint64, size})
	}
	for _, c := range calls {
		if l, e := bits.Put(c.n, c.size); e != api.ErrArg || len(l) != 0 {
			t.Errorf("Put(%d, %d): %v, %d", c.n, c.size, l, e)
		}
	}
}

func TestGet(t *testing.T) {
	for _, s := range []string{"", "0", "1", "0101", "0000", "1000000000000000", strings.Repeat("1", 63), strings.Repeat("0", 64), strings.Repeat("1", 64), "1" + strings.Repeat("0", 63)} {
		want, _ := strconv.ParseUint("0"+s, 2, 64)
		if n, e := bits.Get(row(s)); n != want || e != api.OK {
			t.Errorf("%s: %d, %d", s, n, e)
		}
	}
}

func TestGetRefuses(t *testing.T) {
	for _, l := range [][]byte{{2}, {1, 255}, {'1'}, make([]byte, 65), make([]byte, api.MaxBits+1)} {
		if n, e := bits.Get(l); n != 0 || e != api.ErrArg {
			t.Errorf("%d bytes: %d, %d", len(l), n, e)
		}
	}
}

func TestBytes(t *testing.T) {
	for _, b := range [][]byte{nil, {}, {0}, {255}, {0x81, 0x0f}, {1, 2, 3}, bytes.Repeat([]byte{0xa7, 3}, api.MaxBits)} {
		var want []byte
		for _, x := range b {
			want = append(want, row(bin(uint64(x), 8))...)
		}
		if got := bits.Bytes(b); !bytes.Equal(got, want) {
			t.Errorf("%d bytes: %d bits, wanted %d", len(b), len(got), len(want))
		}
	}
}

func TestPack(t *testing.T) {
	for s, want := range map[string]string{"": "", "0000000000000001": "\x00\x01", "10000000": "\x80", "0100000101000010": "AB"} {
		if b, e := bits.Pack(row(s)); string(b) != want || e != api.OK {
			t.Errorf("%s: %v, %d", s, b, e)
		}
	}
	if b, e := bits.Pack(mixed(api.MaxBits)); len(b) != api.MaxBits/8 || e != api.OK {
		t.Errorf("as many as may be: %d bytes, %d", len(b), e)
	}
}

func TestPackRefuses(t *testing.T) {
	for n := range 34 {
		b, e := bits.Pack(mixed(n))
		if n%8 == 0 {
			if e != api.OK || len(b) != n/8 {
				t.Errorf("%d bits: %v, %d", n, b, e)
			}
		} else if e != api.ErrShort || len(b) != 0 {
			t.Errorf("%d bits: %v, %d", n, b, e)
		}
	}
	// Check's error is named first.
	for _, l := range [][]byte{{2}, {0, 0, 0, 0, 0, 0, 0, 2}, {0, 0, 0, 0, 0, 0, 0, 0, 9}, make([]byte, api.MaxBits+1), make([]byte, api.MaxBits+8)} {
		if b, e := bits.Pack(l); e != api.ErrArg || len(b) != 0 {
			t.Errorf("%d bytes: %v, %d", len(l), b, e)
		}
	}
}

// P1.2

func TestText(t *testing.T) {
	for _, s := range []string{"", "0", "1", "011010", strings.Repeat("10", api.MaxBits/2)} {
		if got, e := bits.Text(row(s)); got != s || e != api.OK {
			t.Errorf("%d bits: %d", len(s), e)
		}
	}
	for _, l := range [][]byte{{2}, {0, 1, 255}, {'0'}, make([]byte, api.MaxBits+1)} {
		if s, e := bits.Text(l); s != "" || e != api.ErrArg {
			t.Errorf("%d bytes: %q, %d", len(l), s, e)
		}
	}
}

func TestRead(t *testing.T) {
	full := strings.Repeat("10", api.MaxBits/2)
	for s, want := range map[string]string{
		"": "", " ": "", "   ": "", "0": "0", "1": "1", " 0 ": "0", "01 10": "0110", "1  0": "10",
		full:                                   full,
		" " + strings.Repeat("1 0 ", 32768):    full,
		full + strings.Repeat(" ", 3):          full,
		strings.Repeat(" ", api.MaxBits) + "1": "1",
	} {
		if l, e := bits.Read(s); e != api.OK || !bytes.Equal(l, row(want)) {
			t.Errorf("%d letters: %d bits, %d", len(s), len(l), e)
		}
	}
}

func TestReadRefuses(t *testing.T) {
	for c := range 256 {
		if c == '0' || c == '1' || c == ' ' {
			continue
		}
		for _, s := range []string{string([]byte{byte(c)}), "01" + string([]byte{byte(c)}), string([]byte{byte(c)}) + "01", "1 " + string([]byte{byte(c)}) + " 0"} {
			if l, e := bits.Read(s); e != api.ErrArg || len(l) != 0 {
				t.Errorf("%q: %v, %d", s, l, e)
			}
		}
	}
	full := strings.Repeat("01", api.MaxBits/2)
	for _, s := range []string{"0\u00a01", "0\u20031", "\uff10", full + "0", full + "1", full + " 0", full + full, full + "x"} {
		if l, e := bits.Read(s); e != api.ErrArg || len(l) != 0 {
			t.Errorf("%d letters: %d bits, %d", len(s), len(l), e)
		}
	}
}

func TestRun(t *testing.T) {
	for n, l := range map[int][]byte{
		0: nil, 1: {0, 1}, 2: {0, 0}, 3: {0, 1, 1, 1}, 4: {7, 7, 7, 7}, 5: {1, 0, 1, 1, 1, 1, 1},
		6: {0, 255, 255, 255, 255, 255, 255}, 7: {0, 1, 0, 0, 0, 0, 0, 0, 0},
		// It is asked of any bytes, however many.
		3 * api.MaxBits: make([]byte, 3*api.MaxBits),
	} {
		if got := bits.Run(l); got != n {
			t.Errorf("run of %d: %d", n, got)
		}
	}
	if got := bits.Run([]byte{}); got != 0 {
		t.Error(got)
	}
	for _, l := range [][]byte{{1}, {0}, {2}, {1, 2}, {0, 0, 0, 1}, {1, 1, 0}} {
		if got := bits.Run(l); got != 1 {
			t.Errorf("%v: %d", l, got)
		}
	}
}

// P1.3

func TestWhatIsPutIsGot(t *testing.T) {
	for size := range 12 {
		for n := range uint64(1) << size {
			l, e := bits.Put(n, size)
			back, f := bits.Get(l)
			if e != api.OK || f != api.OK || back != n || len(l) != size {
				t.Fatalf("%d of %d bits: %d, %d, %d", n, size, back, e, f)
			}
		}
	}
	for size := range 65 {
		l := mixed(size)
		n, e := bits.Get(l)
		back, f := bits.Put(n, size)
		if e != api.OK || f != api.OK || !bytes.Equal(back, l) {
			t.Errorf("%d bits: %v, %d, %d", size, back, e, f)
		}
	}
}

func TestBytesArePackedAsThey(t *testing.T) {
	for n := range 256 {
		b := []byte{byte(n), byte(255 - n), byte(n * 7)}
		if back, e := bits.Pack(bits.Bytes(b)); e != api.OK || !bytes.Equal(back, b) {
			t.Errorf("%v: %v, %d", b, back, e)
		}
	}
	l := mixed(api.MaxBits)
	b, e := bits.Pack(l)
	if e != api.OK || !bytes.Equal(bits.Bytes(b), l) {
		t.Errorf("as many bits as may be: %d", e)
	}
}

func TestATextIsReadAsItsBits(t *testing.T) {
	for _, n := range []int{0, 1, 2, 7, 8, 9, 100, api.MaxBits} {
		l := mixed(n)
		s, e := bits.Text(l)
		back, f := bits.Read(s)
		if e != api.OK || f != api.OK || !bytes.Equal(back, l) {
			t.Errorf("%d bits: %d, %d", n, e, f)
		}
	}
}

// DOC.md's rules of lists

// calls are those that take bytes and answer some.
func calls() map[string]func([]byte) []byte {
	return map[string]func([]byte) []byte{
		"Check": func(l []byte) []byte { bits.Check(l); return nil },
		"Get":   func(l []byte) []byte { bits.Get(l); return nil },
		"Run":   func(l []byte) []byte { bits.Run(l); return nil },
		"Text":  func(l []byte) []byte { s, _ := bits.Text(l); return []byte(s) },
		"Bytes": bits.Bytes,
		"Pack":  func(l []byte) []byte { b, _ := bits.Pack(l); return b },
	}
}

func TestWhatIsHandedInStays(t *testing.T) {
	for name, call := range calls() {
		whole := []byte{1, 0, 1, 1, 0, 0, 1, 0, 7, 7, 7, 7, 7, 7, 7, 7}
		before := bytes.Clone(whole)
		out := call(whole[:8])
		for i := range out[:cap(out)] {
			out[:cap(out)][i] = 9
		}
		if !bytes.Equal(whole, before) {
			t.Errorf("%s: %v", name, whole)
		}
	}
}

func TestAnswersAreNew(t *testing.T) {
	answers := []func() []byte{
		func() []byte { l, _ := bits.Put(5, 4); return l },
		func() []byte { l, _ := bits.Read("01 01"); return l },
		func() []byte { return bits.Bytes([]byte{0x55}) },
		func() []byte { b, _ := bits.Pack(row("01010101")); return b },
	}
	for i, answer := range answers {
		first, second := answer(), answer()
		want := bytes.Clone(second)
		for j := range first[:cap(first)] {
			first[:cap(first)][j] = 9
		}
		if len(second) == 0 || !bytes.Equal(second, want) {
			t.Errorf("answer %d: %v", i, second)
		}
	}
}
