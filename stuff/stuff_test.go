package stuff_test

import (
	"bytes"
	"math"
	"strings"
	"testing"

	"omnibus/api"
	"omnibus/stuff"
)

// row is a text's bits, told without the packages that are tested; blanks only part them.
func row(s string) []byte {
	var l []byte
	for _, c := range s {
		if c != ' ' {
			l = append(l, byte(c-'0'))
		}
	}
	return l
}

// mixed is a row of n bits without a short rule in them.
func mixed(n int) []byte {
	l := make([]byte, n)
	x := uint32(1)
	for i := range l {
		x = x*1664525 + 1013904223
		l[i] = byte(x >> 31)
	}
	return l
}

// long is a row of n bits, many of them alike.
func long(n int) []byte {
	l := make([]byte, n)
	x := uint32(7)
	b := byte(0)
	for i := range l {
		x = x*1664525 + 1013904223
		if x>>29 == 0 {
			b ^= 1
		}
		l[i] = b
	}
	return l
}

func same(b byte, n int) []byte {
	return bytes.Repeat([]byte{b}, n)
}

// thick is a row of n bits that takes the most stuff bits: five alike, then four and four that are the stuff bit's like.
func thick(n int) []byte {
	l := make([]byte, n)
	for i := range l {
		l[i] = byte((i + 3) / 4 & 1)
	}
	if n > 0 {
		l[0] = 1
	}
	return l
}

// turns is a row of n bits of which no two neighbours are alike.
func turns(n int) []byte {
	l := make([]byte, n)
	for i := range l {
		l[i] = byte(i & 1)
	}
	return l
}

// ending is a row of n bits, the last ones of which are alike, as many as tail says; no others are.
func ending(n, tail int) []byte {
	l := turns(n)
	for i := n - tail; i < n; i++ {
		l[i] = l[n-tail]
	}
	return l
}

// rowsOf are all rows of so many bits.
func rowsOf(size int) [][]byte {
	var rows [][]byte
	for n := range 1 << size {
		l := make([]byte, size)
		for i := range l {
			l[i] = byte(n >> i & 1)
		}
		rows = append(rows, l)
	}
	return rows
}

func rowsTo(size int) [][]byte {
	var rows [][]byte
	for n := range size + 1 {
		rows = append(rows, rowsOf(n)...)
	}
	return rows
}

// fiveEnd says whether a row's last five bits are alike.
func fiveEnd(l []byte) bool {
	return bytes.HasSuffix(l, same(0, 5)) || bytes.HasSuffix(l, same(1, 5))
}

// made is the stuffed bits by the chapter's words: the last five that were made are looked at anew for each bit.
func made(l []byte) []byte {
	var raw []byte
	for _, b := range l {
		if fiveEnd(raw) {
			raw = append(raw, 1-raw[len(raw)-1])
		}
		raw = append(raw, b)
	}
	return raw
}

// sixAlike says whether six bits alike stand one behind the other.
func sixAlike(raw []byte) bool {
	return bytes.Contains(raw, same(0, 6)) || bytes.Contains(raw, same(1, 6))
}

// behindFive is how many bits stand behind five that are alike.
func behindFive(raw []byte) int {
	n := 0
	for i := range raw {
		if fiveEnd(raw[:i]) {
			n++
		}
	}
	return n
}

// noBits are rows that may not be.
func noBits() [][]byte {
	rows := [][]byte{{0, 2, 0}, {0, 1, 2}, {'0', '1'}, make([]byte, api.MaxBits+1), turns(api.MaxBits + 1), turns(2 * api.MaxBits)}
	for b := 2; b < 256; b++ {
		rows = append(rows, []byte{byte(b)})
	}
	late := turns(api.MaxBits)
	late[len(late)-1] = 2
	// Of these the row's first bits alone are stuffed wrongly, or too few.
	return append(rows, late, append(same(1, 6), 2), append(same(0, 7), 3), []byte{0, 0, 0, 0, 0, 2}, []byte{1, 1, 1, 1, 1, 255})
}

// P3.1: Put

func TestPut(t *testing.T) {
	for s, want := range map[string]string{
		"":      "",
		"0":     "0",
		"0101":  "0101",
		"1111":  "1111",
		"11111": "11111",
		"00000": "00000",
		// A stuff bit comes only if another bit does, whichever that is.
		"111111": "11111 0 1",
		"111110": "11111 0 0",
		"000000": "00000 1 0",
		"000001": "00000 1 1",
		// It counts among the last five of what comes.
		"11111 0000":          "11111 0 0000",
		"11111 0000 1":        "11111 0 0000 1 1",
		"11111 0000 0":        "11111 0 0000 1 0",
		"00000 1111 0000 1":   "00000 1 1111 0 0000 1 1",
		"11111 11111 11111":   "11111 0 11111 0 11111",
		"11111 11111 11111 1": "11111 0 11111 0 11111 0 1",
		"0 11111 1":           "0 11111 0 1",
		"1 0 0000 0 0":        "1 00000 1 0 0",
		"00000 00000":         "00000 1 00000",
		"00000 10000 0":       "00000 1 1 0000 0",
	} {
		got, e := stuff.Put(row(s))
		if e != api.OK || !bytes.Equal(got, row(want)) {
			t.Errorf("%s: %v, %d, wanted %s", s, got, e, want)
		}
	}
}

func TestPutOfAllShortRows(t *testing.T) {
	for _, l := range rowsTo(13) {
		if got, e := stuff.Put(l); e != api.OK || !bytes.Equal(got, made(l)) {
			t.Fatalf("%v: %v, %d, wanted %v", l, got, e, made(l))
		}
	}
}

func TestPutOfLongRows(t *testing.T) {
	for _, n := range []int{100, 4099, 50000} {
		for _, l := range [][]byte{mixed(n), long(n), thick(n), turns(n), same(0, n), same(1, n)} {
			if got, e := stuff.Put(l); e != api.OK || !bytes.Equal(got, made(l)) {
				t.Errorf("%d bits: %d, %d, wanted %d", n, len(got), e, len(made(l)))
			}
		}
	}
}

func TestPutMakesAtMostMaxBits(t *testing.T) {
	for _, x := range []struct {
		l    []byte
		raws int
	}{
		{turns(api.MaxBits - 1), api.MaxBits - 1},
		{turns(api.MaxBits), api.MaxBits},
		{same(0, 54613), api.MaxBits - 1},
		{same(0, 54614), api.MaxBits},
		{same(1, 54614), api.MaxBits},
		{thick(52429), api.MaxBits - 1},
		{append([]byte{0}, thick(52429)...), api.MaxBits},
		{ending(api.MaxBits, 5), api.MaxBits},
		{ending(api.MaxBits-1, 6), api.MaxBits},
	} {
		got, e := stuff.Put(x.l)
		if e != api.OK || len(got) != x.raws || !bytes.Equal(got, made(x.l)) {
			t.Errorf("%d bits: %d, %d, wanted %d", len(x.l), len(got), e, x.raws)
		}
	}
	for _, l := range [][]byte{
		same(0, 54615), same(1, 54615), thick(52430), thick(60000),
		same(0, api.MaxBits), same(1, api.MaxBits), thick(api.MaxBits), mixed(api.MaxBits),
		append(same(0, 6), turns(api.MaxBits-6)...),
		ending(api.MaxBits, 6),
	} {
		if got, e := stuff.Put(l); e != api.ErrArg || len(got) != 0 {
			t.Errorf("%d bits: %d, %d", len(l), len(got), e)
		}
	}
}

func TestPutRefuses(t *testing.T) {
	for _, l := range noBits() {
		if got, e := stuff.Put(l); e != api.ErrArg || len(got) != 0 {
			t.Errorf("%d bytes: %v, %d", len(l), got, e)
		}
	}
}

// P3.1: Get

func TestGet(t *testing.T) {
	for _, x := range []struct {
		raw, bits string
		e         api.Errno
	}{
		{"", "", api.OK},
		{"1", "1", api.OK},
		{"11111", "11111", api.OK},
		{"11111 0 1", "111111", api.OK},
		{"11111 0 0", "111110", api.OK},
		{"11111 0 0000 1 1", "11111 0000 1", api.OK},
		{"0 11111 0 0000", "0 11111 0000", api.OK},
		{"111111", "", api.ErrStuff},
		{"000000", "", api.ErrStuff},
		{"0111111", "", api.ErrStuff},
		{"11111 0 00000", "", api.ErrStuff},
		{"11111 00000 0", "", api.ErrStuff},
		{"111111 0 1", "", api.ErrStuff},
		{"111110", "", api.ErrMore},
		{"000001", "", api.ErrMore},
		{"01 00000 1", "", api.ErrMore},
		{"11111 0 0000 1", "", api.ErrMore},
		// What is wrong ahead of a last stuff bit is told first.
		{"111111 00000 1", "", api.ErrStuff},
	} {
		got, e := stuff.Get(row(x.raw))
		if e != x.e || !bytes.Equal(got, row(x.bits)) {
			t.Errorf("%s: %v, %d, wanted %s, %d", x.raw, got, e, x.bits, x.e)
		}
	}
}

// TestGetOfAllShortRows: a raw row is made of bits, or has six alike, or ends with a stuff bit.
func TestGetOfAllShortRows(t *testing.T) {
	const size = 13
	from := map[string][]byte{}
	for _, l := range rowsTo(size) {
		from[string(made(l))] = l
	}
	for _, raw := range rowsTo(size) {
		l, ok := from[string(raw)]
		want := api.OK
		switch {
		case ok:
		case sixAlike(raw):
			want = api.ErrStuff
		default:
			want = api.ErrMore
		}
		if got, e := stuff.Get(raw); e != want || !bytes.Equal(got, l) {
			t.Fatalf("%v: %v, %d, wanted %v, %d", raw, got, e, l, want)
		}
	}
}

func TestGetOfLongRows(t *testing.T) {
	for i, x := range []struct {
		raw  []byte
		bits int
		e    api.Errno
	}{
		{turns(api.MaxBits), api.MaxBits, api.OK},
		{made(thick(52429)), 52429, api.OK},
		{made(same(1, 54614)), 54614, api.OK},
		{ending(api.MaxBits, 5), api.MaxBits, api.OK},
		{made(ending(api.MaxBits-1, 6)), api.MaxBits - 1, api.OK},
		{made(ending(api.MaxBits, 6))[:api.MaxBits], 0, api.ErrMore},
		{ending(api.MaxBits, 6), 0, api.ErrStuff},
		{append(same(0, 6), turns(api.MaxBits-6)...), 0, api.ErrStuff},
		{same(0, api.MaxBits), 0, api.ErrStuff},
	} {
		if got, e := stuff.Get(x.raw); e != x.e || len(got) != x.bits {
			t.Errorf("row %d: %d bits, %d", i, len(got), e)
		}
	}
}

func TestGetRefuses(t *testing.T) {
	for _, raw := range noBits() {
		if got, e := stuff.Get(raw); e != api.ErrArg || len(got) != 0 {
			t.Errorf("%d bytes: %v, %d", len(raw), got, e)
		}
	}
}

// P3.1: Count

func TestCount(t *testing.T) {
	for _, x := range []struct {
		raw string
		n   int
		e   api.Errno
	}{
		{"", 0, api.OK},
		{"0", 0, api.OK},
		{"0101", 0, api.OK},
		{"11111", 0, api.OK},
		// It tells of no bit that is to come: the last one may be a stuff bit.
		{"11111 0", 1, api.OK},
		{"00000 1", 1, api.OK},
		{"11111 0 1", 1, api.OK},
		{"11111 0 0000", 1, api.OK},
		{"11111 0 0000 1", 2, api.OK},
		{"11111 0 0000 1 1", 2, api.OK},
		{"000000", 0, api.ErrStuff},
		{"111111", 0, api.ErrStuff},
		{"11111 0 00000", 0, api.ErrStuff},
		{"11111 0 1 00000 0", 0, api.ErrStuff},
	} {
		if n, e := stuff.Count(row(x.raw)); n != x.n || e != x.e {
			t.Errorf("%s: %d, %d, wanted %d, %d", x.raw, n, e, x.n, x.e)
		}
	}
}

func TestCountOfAllShortRows(t *testing.T) {
	for _, raw := range rowsTo(13) {
		want, err := behindFive(raw), api.OK
		if sixAlike(raw) {
			want, err = 0, api.ErrStuff
		}
		if n, e := stuff.Count(raw); n != want || e != err {
			t.Fatalf("%v: %d, %d, wanted %d, %d", raw, n, e, want, err)
		}
	}
}

func TestCountOfLongRows(t *testing.T) {
	for _, x := range []struct {
		raw []byte
		n   int
		e   api.Errno
	}{
		{turns(api.MaxBits), 0, api.OK},
		{made(thick(52429)), 13106, api.OK},
		{made(same(0, 54614)), 10922, api.OK},
		{same(0, api.MaxBits), 0, api.ErrStuff},
		{ending(api.MaxBits, 6), 0, api.ErrStuff},
	} {
		if n, e := stuff.Count(x.raw); n != x.n || e != x.e {
			t.Errorf("%d bits: %d, %d, wanted %d, %d", len(x.raw), n, e, x.n, x.e)
		}
	}
}

func TestCountRefuses(t *testing.T) {
	for _, raw := range noBits() {
		if n, e := stuff.Count(raw); e != api.ErrArg || n != 0 {
			t.Errorf("%d bytes: %d, %d", len(raw), n, e)
		}
	}
}

// P3.2

func TestTake(t *testing.T) {
	for _, x := range []struct {
		raw  string
		n    int
		bits string
		raws int
		e    api.Errno
	}{
		{"", 0, "", 0, api.OK},
		{"", 1, "", 0, api.ErrShort},
		{"111111", 0, "", 0, api.OK},
		{"0110", 3, "011", 3, api.OK},
		{"0110", 4, "0110", 4, api.OK},
		{"0110", 5, "", 0, api.ErrShort},
		// A stuff bit behind the last of those bits isn't taken, nor looked at.
		{"11111 0 1 1", 5, "11111", 5, api.OK},
		{"111111", 5, "11111", 5, api.OK},
		{"11111 0 1 1", 6, "111111", 7, api.OK},
		{"11111 0 1 1", 7, "1111111", 8, api.OK},
		{"11111 0 1 1", 8, "", 0, api.ErrShort},
		{"11111", 6, "", 0, api.ErrShort},
		{"111110", 6, "", 0, api.ErrShort},
		{"111111", 6, "", 0, api.ErrStuff},
		{"1111110101", 6, "", 0, api.ErrStuff},
		{"11111 0 0000 1 1", 9, "11111 0000", 10, api.OK},
		{"11111 0 0000 1 1", 10, "11111 0000 1", 12, api.OK},
		{"11111 0 0000 0 1", 9, "11111 0000", 10, api.OK},
		{"11111 0 0000 0 1", 10, "", 0, api.ErrStuff},
		// What is wrong further on isn't looked at.
		{"01 111111", 3, "011", 3, api.OK},
		// Of both errors ErrStuff is named first.
		{"111111", api.MaxBits, "", 0, api.ErrStuff},
	} {
		l, raws, e := stuff.Take(row(x.raw), x.n)
		if e != x.e || raws != x.raws || !bytes.Equal(l, row(x.bits)) {
			t.Errorf("%d of %s: %v, %d, %d, wanted %s, %d, %d", x.n, x.raw, l, raws, e, x.bits, x.raws, x.e)
		}
	}
}

// taken is Take by the chapter's words: raw bits are gone through one place behind the other, each of them by those ahead of it.
func taken(raw []byte, n int) ([]byte, int, api.Errno) {
	var l []byte
	for i, b := range raw {
		switch {
		case len(l) == n:
			return l, i, api.OK
		case !fiveEnd(raw[:i]):
			l = append(l, b)
		case b == raw[i-1]:
			return nil, 0, api.ErrStuff
		}
	}
	if len(l) < n {
		return nil, 0, api.ErrShort
	}
	return l, len(raw), api.OK
}

func TestTakeOfAllShortRows(t *testing.T) {
	for _, raw := range rowsTo(11) {
		for n := range len(raw) + 3 {
			want, raws, err := taken(raw, n)
			l, k, e := stuff.Take(raw, n)
			if e != err || k != raws || !bytes.Equal(l, want) {
				t.Fatalf("%d of %v: %v, %d, %d, wanted %v, %d, %d", n, raw, l, k, e, want, raws, err)
			}
		}
	}
}

func TestTakeOfLongRows(t *testing.T) {
	thickest, fullest := made(thick(52429)), turns(api.MaxBits)
	for _, x := range []struct {
		raw     []byte
		n, raws int
		e       api.Errno
	}{
		{fullest, api.MaxBits, api.MaxBits, api.OK},
		{fullest, api.MaxBits - 1, api.MaxBits - 1, api.OK},
		{fullest[1:], api.MaxBits, 0, api.ErrShort},
		{thickest, 52429, api.MaxBits - 1, api.OK},
		{thickest, 52428, api.MaxBits - 2, api.OK},
		{thickest, 52430, 0, api.ErrShort},
		{append(same(0, 6), fullest[6:]...), 5, 5, api.OK},
		{append(same(0, 6), fullest[6:]...), api.MaxBits, 0, api.ErrStuff},
	} {
		l, raws, e := stuff.Take(x.raw, x.n)
		if e != x.e || raws != x.raws || e == api.OK && len(l) != x.n {
			t.Errorf("%d of %d raw bits: %d, %d, %d", x.n, len(x.raw), len(l), raws, e)
		}
	}
}

func TestTakeRefuses(t *testing.T) {
	for _, n := range []int{-1, -2, api.MaxBits + 1, 2 * api.MaxBits, 1 << 40, math.MaxInt, math.MinInt} {
		for _, raw := range [][]byte{nil, {}, {0}, same(1, 6), {2}, turns(api.MaxBits)} {
			if l, raws, e := stuff.Take(raw, n); e != api.ErrArg || raws != 0 || len(l) != 0 {
				t.Errorf("%d of %d bits: %v, %d, %d", n, len(raw), l, raws, e)
			}
		}
	}
	// The whole row is checked, however few bits are asked for.
	for _, raw := range noBits() {
		for _, n := range []int{0, 1, 5, 6, 7, api.MaxBits} {
			if l, raws, e := stuff.Take(raw, n); e != api.ErrArg || raws != 0 || len(l) != 0 {
				t.Errorf("%d of %d bytes: %v, %d, %d", n, len(raw), l, raws, e)
			}
		}
	}
}

// P3.3

func manyRows() [][]byte {
	rows := append(rowsTo(12), same(0, 54614), same(1, 54614), thick(52429), turns(api.MaxBits))
	for _, n := range []int{13, 20, 99, 1000, 4099, 50000} {
		rows = append(rows, mixed(n), long(n), thick(n), same(0, n), same(1, n))
	}
	return rows
}

func TestWhatIsPutIsGot(t *testing.T) {
	for _, l := range manyRows() {
		raw, e := stuff.Put(l)
		back, f := stuff.Get(raw)
		if e != api.OK || f != api.OK || !bytes.Equal(back, l) {
			t.Fatalf("%d bits: %d, %d", len(l), e, f)
		}
		if n, e := stuff.Count(raw); e != api.OK || n != len(raw)-len(l) {
			t.Fatalf("%d bits: %d stuff bits of %d, %d", len(l), n, len(raw)-len(l), e)
		}
	}
}

func TestWhatIsPutIsTakenAheadOfAnything(t *testing.T) {
	for _, l := range rowsTo(10) {
		raw, _ := stuff.Put(l)
		for _, tail := range []string{"", "0", "1", "000000", "111111", "01"} {
			got, raws, e := stuff.Take(append(bytes.Clone(raw), row(tail)...), len(l))
			if e != api.OK || raws != len(raw) || !bytes.Equal(got, l) {
				t.Fatalf("%v, and %s: %v, %d, %d", l, tail, got, raws, e)
			}
		}
	}
}

func TestNeverSixAlike(t *testing.T) {
	for _, l := range manyRows() {
		if raw, e := stuff.Put(l); e != api.OK || sixAlike(raw) {
			t.Fatalf("%d bits: %d", len(l), e)
		}
	}
}

// TestAtMostOneInFive: of five raw bits at most one is a stuff bit, and the first one stands behind the fifth bit.
func TestAtMostOneInFive(t *testing.T) {
	for _, l := range manyRows() {
		raw, e := stuff.Put(l)
		more := len(raw) - len(l)
		if e != api.OK || more < 0 || 5*more > len(raw) || 4*more > len(l) {
			t.Fatalf("%d bits: %d more, %d", len(l), more, e)
		}
		ahead := min(len(l), 5)
		if !bytes.Equal(raw[:ahead], l[:ahead]) || len(l) <= 5 && more != 0 {
			t.Fatalf("%d bits: a stuff bit ahead of the fifth", len(l))
		}
	}
	// The sixth bit is the first that calls for one, and then each fourth.
	for _, n := range []int{5, 6, 9, 10, 13, 14, 1001, 1002} {
		if raw, _ := stuff.Put(thick(n)); len(raw)-n != (n-2)/4 {
			t.Errorf("the most for %d bits: %d", n, len(raw)-n)
		}
	}
}

// DOC.md's rules of lists, and of what answers hang on

// calls are the package's, each with the list that it answers, if it does.
func calls() map[string]func([]byte) []byte {
	return map[string]func([]byte) []byte{
		"Put":   func(l []byte) []byte { out, _ := stuff.Put(l); return out },
		"Get":   func(l []byte) []byte { out, _ := stuff.Get(l); return out },
		"Count": func(l []byte) []byte { stuff.Count(l); return nil },
		"Take":  func(l []byte) []byte { out, _, _ := stuff.Take(l, 7); return out },
	}
}

func TestNilAndEmptyAreOne(t *testing.T) {
	for name, call := range calls() {
		if a, b := call(nil), call([]byte{}); len(a) != 0 || len(b) != 0 {
			t.Errorf("%s: %v, %v", name, a, b)
		}
	}
	for _, l := range [][]byte{nil, {}} {
		if _, e := stuff.Put(l); e != api.OK {
			t.Error("Put", e)
		}
		if _, e := stuff.Get(l); e != api.OK {
			t.Error("Get", e)
		}
		if n, e := stuff.Count(l); n != 0 || e != api.OK {
			t.Error("Count", n, e)
		}
		if _, n, e := stuff.Take(l, 0); n != 0 || e != api.OK {
			t.Error("Take", n, e)
		}
	}
}

func TestWhatIsHandedInStays(t *testing.T) {
	for name, call := range calls() {
		for _, s := range []string{"01101 0011", "11111 0 1 1 0", "0"} {
			room := append(row(s), bytes.Repeat([]byte{7}, 40)...)
			before := bytes.Clone(room)
			out := call(room[:len(row(s))])
			if !bytes.Equal(room, before) {
				t.Errorf("%s: %v", name, room)
			}
			for i := range out[:cap(out)] {
				out[:cap(out)][i] = 9
			}
			if !bytes.Equal(room, before) {
				t.Errorf("%s: the answer shares memory with what was handed in", name)
			}
		}
	}
}

func TestAnswersAreNew(t *testing.T) {
	raw := row(strings.Repeat("11111 0 0000 1 ", 3) + "0")
	for name, call := range calls() {
		first, second := call(raw), call(raw)
		if !bytes.Equal(first, second) {
			t.Errorf("%s: two answers to one row", name)
		}
		want := bytes.Clone(second)
		for i := range first[:cap(first)] {
			first[:cap(first)][i] = 9
		}
		if !bytes.Equal(second, want) {
			t.Errorf("%s: two answers share memory", name)
		}
	}
}
