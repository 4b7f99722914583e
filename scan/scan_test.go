package scan_test

import (
	"bytes"
	"slices"
	"testing"

	"omnibus/api"
	"omnibus/classic"
	"omnibus/crc"
	"omnibus/fd"
	"omnibus/fixed"
	"omnibus/frame"
	"omnibus/scan"
	"omnibus/stuff"
	"omnibus/xl"
)

// plainRow and longRow are rows up to the delimiter, reckoned apart: of a Classic frame of ID 1365 without Data, and of an XL frame.
const (
	plainRow = "0 10101010101 000 00 1 00 110011101001100 "
	longRow  = "0 10101010101 00110  1001  00000011 0 10000000 1 00100000 1 01101111 0 11111000 1 10010110 1 11110101 0 01101101 0 11110111 0 01111000 1 00001000 1 00010000 1 00011101 0 11101001 0 10000110 1 10110000 1 01110  0110 "
)

// P9.1

func TestWhatARowIs(t *testing.T) {
	for _, x := range []struct {
		s    string
		xl   bool
		want scan.Status
	}{
		{"", true, scan.Status{}},
		{"0", true, scan.Status{}},
		{"1", true, scan.Status{Kind: scan.Bad, Err: api.ErrForm}},
		{"1", false, scan.Status{Kind: scan.Bad, Err: api.ErrForm}},
		{"00000", true, scan.Status{}},
		{"00000 1", true, scan.Status{}},
		{"00000 0", true, scan.Status{Kind: scan.Bad, Err: api.ErrStuff}},
		{"0 11111 0", true, scan.Status{}},
		{"0 11111 1", true, scan.Status{Kind: scan.Bad, Err: api.ErrStuff}},
		{"0 10101010101 0011", true, scan.Status{}},
		{"0 10101010101 0011", false, scan.Status{Kind: scan.Alien}},
		{"0 10101010101 0010", false, scan.Status{}},
		{plainRow + "1", true, scan.Status{Kind: scan.Slot}},
		{plainRow + "0", true, scan.Status{Kind: scan.Bad, Err: api.ErrForm}},
		{plainRow + "1 0", true, scan.Status{}},
		{plainRow + "1 0 1 11111", true, scan.Status{}},
		{plainRow + "1 0 1 111111", true, scan.Status{Kind: scan.Done, F: api.Frame{Kind: api.Classic, ID: 1365}}},
		{plainRow + "1 1 1 111111 1", false, scan.Status{Kind: scan.Done, F: api.Frame{Kind: api.Classic, ID: 1365}}},
		{plainRow + "1 1 1 111111 0", false, scan.Status{Kind: scan.Done, F: api.Frame{Kind: api.Classic, ID: 1365}}},
		{"0 10101010101 100 000 1 0 001010010001001 1 1 1 111111", true, scan.Status{Kind: scan.Done, F: api.Frame{Kind: api.Classic, ID: 1365, RTR: true}}},
		{"0 10101010101 0010 0 0 00 1 00  1 0011 0 0010 1 1111 0 0000 1 0111 0 1  1 1 1 111111", false, scan.Status{Kind: scan.Done, F: api.Frame{Kind: api.FD, ID: 1365}}},
		{longRow + "1", true, scan.Status{Kind: scan.Slot}},
		{longRow + "1 0 1 111111", true, scan.Status{Kind: scan.Done, F: api.Frame{Kind: api.XL, ID: 1365, SEC: true, SDT: 3, VCID: 0x12, AF: 0xdeadbeef, Data: []byte{1, 2, 3}}}},
		{longRow + "1 0 1 111111", false, scan.Status{Kind: scan.Alien}},
	} {
		if s, e := scan.Scan(row(x.s), x.xl); e != api.OK || !same(s, x.want) {
			t.Errorf("%s, %v: %+v, %d, wanted %+v", x.s, x.xl, s, e, x.want)
		}
	}
}

func TestFramesOnTheWire(t *testing.T) {
	for _, f := range slices.Concat(shorts(), longs()) {
		agrees(t, wire(t, f).Bits)
	}
}

func TestEachBeginningIsScannedAlike(t *testing.T) {
	for i, f := range shorts() {
		if i%7 != 0 {
			continue
		}
		raw := wire(t, f).Bits
		want, _ := told(raw, true)
		for n := range len(raw) + 1 {
			if s, e := scan.Scan(raw[:n], true); e != api.OK || !same(s, want[n]) {
				t.Fatalf("%d bits of %+v: %+v, %d, wanted %+v", n, f, s, e, want[n])
			}
		}
	}
}

func TestOfEachID(t *testing.T) {
	next := draw()
	for id := range uint32(2048) {
		agrees(t, wire(t, api.Frame{Kind: api.Classic, ID: id, Data: mixed(next, int(next()%9))}).Bits)
		agrees(t, wire(t, api.Frame{Kind: api.Classic, ID: id<<18 | next()>>14, Ext: true, RTR: true}).Bits)
		agrees(t, wire(t, api.Frame{Kind: api.FD, ID: id, Data: mixed(next, int(next()%9))}).Bits)
		agrees(t, wire(t, api.Frame{Kind: api.XL, ID: id, Data: mixed(next, 1+int(next()%9))}).Bits)
	}
}

// wrongForms are rows of which the last bit isn't what it must be.
func wrongForms() []string {
	return []string{
		"1",
		"0 10101010101 01",
		"0 0000 1 00000 1 00 01",
		"0 10101010101 101",
		"0 10101010101 11 010101010101010101 01",
		"0 10101010101 11 010101010101010101 11",
		"0 10101010101 11 010101010101010101 001",
		"0 10101010101 11 010101010101010101 101",
		"0 10101010101 00111",
		"0 10101010101 00110 0",
		"0 10101010101 00110 11",
		"0 10101010101 00110 101",
		"0 10101010101 00110 1000",
		"0 10101010101 000 1001",
		"0 10101010101 11 010101010101010101 000 1001",
		"0 10101010101 100 00011",
		"0 10101010101 11 010101010101010101 100 00011",
	}
}

func TestABitThatMustBeAnotherOne(t *testing.T) {
	for _, s := range wrongForms() {
		raw := row(s)
		turns(t, raw, len(raw)-1, api.ErrForm)
		raw[len(raw)-1] ^= 1
		if s, e := scan.Scan(raw, true); e != api.OK || s.Kind != scan.More {
			t.Errorf("%v: %+v, %d", raw, s, e)
		}
	}
}

// Where an ID's first bits lead to each of the shapes, whether they may be or not.
func TestAllBitsBehindTheID(t *testing.T) {
	for n := range uint64(1 << 9) {
		agrees(t, row("0 10101010101"+bin(n, 9)))
		agrees(t, row("0 10101010101 11 010101010101010101"+bin(n, 9)))
	}
}

func TestAClassicCode(t *testing.T) {
	for code := range 16 {
		for _, head := range []string{"0 10101010101 000", "0 10101010101 100", "0 10101010101 11 010101010101010101 000", "0 10101010101 11 010101010101010101 100"} {
			raw, e := stuff.Put(row(head + bin(uint64(code), 4) + "1"))
			if e != api.OK {
				t.Fatal(e)
			}
			want := scan.Status{}
			if code > 8 || code > 0 && head[len(head)-3] == '1' {
				want = scan.Status{Kind: scan.Bad, Err: api.ErrForm}
			}
			if s, e := scan.Scan(raw, true); e != api.OK || !same(s, want) {
				t.Errorf("%s, %d: %+v, %d, wanted %+v", head, code, s, e, want)
			}
		}
	}
}

// stretched is a row with more bits behind it, for what a row is once it is Bad.
func stretched(raw []byte) []byte {
	return slices.Concat(raw, row("0000000 1111111 01010101 0"))
}

func TestBitsFromTheDelimiterOn(t *testing.T) {
	for _, f := range shorts() {
		w := wire(t, f)
		for i := w.Ack - 1; i < len(w.Bits)-1; i++ {
			if i == w.Ack {
				continue
			}
			raw := stretched(w.Bits)
			raw[i] ^= 1
			turns(t, raw, i, api.ErrForm)
		}
	}
}

func TestBitsAroundAnXLFramesDataPart(t *testing.T) {
	for _, f := range shorts() {
		if f.Kind != api.XL {
			continue
		}
		w := wire(t, f)
		for i := range 4 {
			for _, at := range []int{w.Arb + i, w.Ack - 5 + i} {
				raw := stretched(w.Bits)
				raw[at] ^= 1
				turns(t, raw, at, api.ErrForm)
			}
		}
	}
}

func TestStuffBitsThatAreNot(t *testing.T) {
	for _, f := range shorts() {
		w := wire(t, f)
		_, places := told(w.Bits, true)
		for _, at := range places {
			raw := stretched(w.Bits)
			raw[at] ^= 1
			turns(t, raw, at, api.ErrStuff)
		}
	}
}

func TestTheSlotMayBeEither(t *testing.T) {
	for _, f := range slices.Concat(shorts(), longs()) {
		w := wire(t, f)
		w.Bits[w.Ack] = 0
		if s, e := scan.Scan(w.Bits, true); e != api.OK || !same(s, scan.Status{Kind: scan.Done, F: f}) {
			t.Fatalf("%+v: %+v, %d", f, s, e)
		}
	}
}

// unsummed holds that rows of all right bits, but for their sums or tallies, are told with the bit behind the slot, whatever that is, and are More ahead of it.
func unsummed(t *testing.T, ahead []byte) {
	t.Helper()
	for _, end := range []string{"1 1 1 1", "1 0 1 1", "1 1 0 1", "1 0 0 0"} {
		raw := slices.Concat(ahead, row(end))
		want := make([]scan.Status, len(raw)+1)
		for i := len(raw) - 1; i < len(want); i++ {
			want[i] = scan.Status{Kind: scan.Bad, Err: api.ErrCrc}
		}
		seen(t, raw, true, want)
	}
	turns(t, append(bytes.Clone(ahead), 0), len(ahead), api.ErrForm)
}

func TestAClassicFramesSumThatIsNot(t *testing.T) {
	for _, f := range []api.Frame{
		{Kind: api.Classic, ID: 1365}, {Kind: api.Classic}, {Kind: api.Classic, ID: 2047, RTR: true}, {Kind: api.Classic, ID: 7, Data: []byte{0xa5, 0}},
		{Kind: api.Classic, ID: 1 << 28, Ext: true, Data: []byte{1}}, {Kind: api.Classic, ID: 1<<29 - 1, Ext: true, RTR: true},
	} {
		l, e := classic.Body(f)
		if e != api.OK {
			t.Fatal(e)
		}
		for i := len(l) - 15 - 8*len(f.Data); i < len(l); i++ {
			l[i] ^= 1
			unsummed(t, put(t, l))
			l[i] ^= 1
		}
		// Bits of the ID, too: these are the sum's last chance.
		for _, i := range []int{1, 6, 11} {
			l[i] ^= 1
			unsummed(t, put(t, l))
			l[i] ^= 1
		}
	}
}

func put(t *testing.T, l []byte) []byte {
	t.Helper()
	raw, e := stuff.Put(l)
	if e != api.OK {
		t.Fatal(e)
	}
	return raw
}

// fdRow is an FD frame's bits ahead of its delimiter, with another tally and sum than its own; with no sum that of the bits ahead.
func fdRow(t *testing.T, raw, tally, sum []byte, kind int) []byte {
	t.Helper()
	whole, e := crc.Add(kind, slices.Concat(raw, tally))
	if e != api.OK {
		t.Fatal(e)
	}
	part := whole[len(raw):]
	if sum != nil {
		part = slices.Concat(tally, sum)
	}
	end, e := fixed.Put(raw[len(raw)-1], part, fixed.Way{Every: 4, Ahead: true})
	if e != api.OK {
		t.Fatal(e)
	}
	return slices.Concat(raw, end)
}

// fds are FD frames with all the tallies there are, and both sums.
func fds() []api.Frame {
	l := []api.Frame{{Kind: api.FD, ID: 1365}, {Kind: api.FD, ID: 2047, BRS: true, ESI: true}, {Kind: api.FD, ID: 5, Data: []byte{0xa5}}}
	for _, n := range []int{1, 2, 3, 4, 5, 6, 7, 8, 12, 16, 20, 64} {
		l = append(l, api.Frame{Kind: api.FD, ID: 1365, Data: make([]byte, n)}, api.Frame{Kind: api.FD, ID: 1365, Data: bytes.Repeat([]byte{0x55}, n)})
	}
	return l
}

func kindOf(f api.Frame) int {
	if len(f.Data) > 16 {
		return crc.C21
	}
	return crc.C17
}

func TestAnFDFramesTallyThatIsNot(t *testing.T) {
	met := map[int]bool{}
	for _, f := range fds() {
		l, e := fd.Body(f)
		if e != api.OK {
			t.Fatal(e)
		}
		raw := put(t, l)
		right := (len(raw) - len(l)) % 8
		met[right] = true
		for n := range uint64(16) {
			tally := row(bin(n, 4))
			all := fdRow(t, raw, tally, nil, kindOf(f))
			if bytes.Equal(tally, row(tallies[right])) {
				if s, e := scan.Scan(append(all, 1), true); e != api.OK || s.Kind != scan.Slot {
					t.Fatalf("%+v: %+v, %d", f, s, e)
				}
				continue
			}
			unsummed(t, all)
		}
	}
	if len(met) != 8 {
		t.Errorf("not all tallies were met: %v", met)
	}
}

func TestAnFDFramesSumThatIsNot(t *testing.T) {
	for _, f := range fds() {
		l, e := fd.Body(f)
		if e != api.OK {
			t.Fatal(e)
		}
		raw := put(t, l)
		tally := row(tallies[(len(raw)-len(l))%8])
		n, e := crc.Sum(kindOf(f), slices.Concat(raw, tally))
		if e != api.OK {
			t.Fatal(e)
		}
		size := crc.Size(kindOf(f))
		for i := range size {
			unsummed(t, fdRow(t, raw, tally, row(bin(n^1<<i, size)), kindOf(f)))
		}
		// The sum is one of the raw bits, not of the bits ahead of stuffing.
		if of, _ := crc.Sum(kindOf(f), slices.Concat(l, tally)); of != n {
			unsummed(t, fdRow(t, raw, tally, row(bin(of, size)), kindOf(f)))
		}
	}
}

// xlRow is an XL frame's bits ahead of its delimiter, of a data part that may have been changed; if anew, its last sum is reckoned again.
func xlRow(t *testing.T, f api.Frame, l []byte, anew bool) []byte {
	t.Helper()
	w := wire(t, f)
	if anew {
		again, e := crc.Add(crc.F32, l[:len(l)-32])
		if e != api.OK {
			t.Fatal(e)
		}
		l = again
	}
	part, e := fixed.Put(1, l, fixed.Way{Every: 8})
	if e != api.OK {
		t.Fatal(e)
	}
	return slices.Concat(w.Bits[:w.Arb], row("1001"), part, row("0110"))
}

// xls are XL frames whose heads have from none to three stuff bits.
func xls() []api.Frame {
	l := []api.Frame{{Kind: api.XL, Data: []byte{0}}, {Kind: api.XL, ID: 1365, SDT: 3, AF: 0xdeadbeef, Data: []byte{1, 2}}}
	for _, id := range []uint32{31, 120, 2047} {
		l = append(l, api.Frame{Kind: api.XL, ID: id, SEC: true, SDT: 255, VCID: 255, AF: 1<<32 - 1, Data: []byte{255}})
	}
	return l
}

// pre is the sum P13 of a head and the bits of a data part ahead of it.
func pre(t *testing.T, f api.Frame, l []byte) []byte {
	t.Helper()
	n, e := crc.Sum(crc.P13, slices.Concat(row("0"+bin(uint64(f.ID), 11)+"00110"), l[:24]))
	if e != api.OK {
		t.Fatal(e)
	}
	return row(bin(n, 13))
}

func TestAnXLFramesTallyThatIsNot(t *testing.T) {
	for _, f := range xls() {
		l, e := xl.Body(f)
		if e != api.OK {
			t.Fatal(e)
		}
		right := bytes.Clone(l[20:24])
		for n := range uint64(16) {
			copy(l[20:], row(bin(n, 4)))
			copy(l[24:], pre(t, f, l))
			all := xlRow(t, f, l, true)
			if bytes.Equal(l[20:24], right) {
				if s, e := scan.Scan(append(all, 1), true); e != api.OK || s.Kind != scan.Slot {
					t.Fatalf("%+v: %+v, %d", f, s, e)
				}
				continue
			}
			unsummed(t, all)
		}
	}
}

func TestAnXLFramesSumsThatAreNot(t *testing.T) {
	for _, f := range xls() {
		l, e := xl.Body(f)
		if e != api.OK {
			t.Fatal(e)
		}
		for i := range l {
			// The size itself tells where the sums stand.
			if i >= 9 && i < 20 {
				continue
			}
			l[i] ^= 1
			unsummed(t, xlRow(t, f, l, false))
			if i < 37 {
				unsummed(t, xlRow(t, f, l, true))
			}
			l[i] ^= 1
		}
	}
}

func TestAnXLFramesSizeThatIsNot(t *testing.T) {
	f := api.Frame{Kind: api.XL, ID: 1365, Data: []byte{1, 2, 3}}
	l, e := xl.Body(f)
	if e != api.OK {
		t.Fatal(e)
	}
	// Size, tally, both sums and the data part's length are in order again, but for the first sum.
	l[19] ^= 1
	unsummed(t, xlRow(t, f, slices.Concat(l[:77], make([]byte, 8*4), l[77:109]), true))
}

func TestAlienIsToldByItsBit(t *testing.T) {
	for _, f := range shorts() {
		raw := stretched(wire(t, f).Bits)
		m := scan.New(false)
		for i, b := range raw {
			s, e := m.See(b)
			alien := f.Kind == api.XL && i >= wire(t, f).Arb-2
			if e != api.OK || (s.Kind == scan.Alien) != alien || alien && !same(s, scan.Status{Kind: scan.Alien}) {
				t.Fatalf("%+v, bit %d: %+v, %d", f, i, s, e)
			}
		}
	}
}

func TestItStaysSo(t *testing.T) {
	done := wire(t, api.Frame{Kind: api.FD, ID: 1365, Data: []byte{1, 2}})
	for _, x := range []struct {
		raw  []byte
		want scan.Status
	}{
		{done.Bits[:len(done.Bits)-1], scan.Status{Kind: scan.Done, F: api.Frame{Kind: api.FD, ID: 1365, Data: []byte{1, 2}}}},
		{row("1"), scan.Status{Kind: scan.Bad, Err: api.ErrForm}},
		{row("000000"), scan.Status{Kind: scan.Bad, Err: api.ErrStuff}},
		{row("0 10101010101 000 00 1 00 110011101001101 1 0 1"), scan.Status{Kind: scan.Bad, Err: api.ErrCrc}},
		{row("0 10101010101 0011"), scan.Status{Kind: scan.Alien}},
	} {
		for _, more := range [][]byte{{0}, {1}, row("000000"), row("11111111111"), done.Bits, make([]byte, 9999)} {
			raw := slices.Concat(x.raw, more)
			want := make([]scan.Status, len(raw)+1)
			told, _ := told(raw, false)
			copy(want, told[:len(x.raw)])
			for i := len(x.raw); i < len(want); i++ {
				want[i] = x.want
			}
			seen(t, raw, false, want)
		}
	}
}

func TestScanRefuses(t *testing.T) {
	done := wire(t, api.Frame{Kind: api.Classic, ID: 1365}).Bits
	rows := [][]byte{{2}, {255}, {'0'}, {'1'}, {0, 2}, {1, 2}, {0, 0, 0, 0, 0, 0, 3}, append(bytes.Clone(done), 2), append([]byte{7}, done...), make([]byte, api.MaxBits+1), bytes.Repeat([]byte{1}, api.MaxBits+1), make([]byte, 1<<20)}
	for i := range done {
		l := bytes.Clone(done)
		l[i] += 2
		rows = append(rows, l)
	}
	for _, raw := range rows {
		for _, xl := range []bool{true, false} {
			if s, e := scan.Scan(raw, xl); e != api.ErrArg || !same(s, scan.Status{}) {
				t.Errorf("%d bytes: %+v, %d", len(raw), s, e)
			}
		}
	}
}

func TestScanOfAsManyBitsAsMayBe(t *testing.T) {
	for _, f := range []api.Frame{{Kind: api.Classic, ID: 5}, {Kind: api.XL, ID: 5, Data: make([]byte, 2048)}} {
		raw := make([]byte, api.MaxBits)
		copy(raw, wire(t, f).Bits)
		if s, e := scan.Scan(raw, true); e != api.OK || !same(s, scan.Status{Kind: scan.Done, F: f}) {
			t.Errorf("%d: %d, %d", f.Kind, s.Kind, e)
		}
	}
}

// P9.1: rows that are no frames

func TestTurnedRows(t *testing.T) {
	next := draw()
	for i, f := range shorts() {
		w := wire(t, f).Bits
		for range 6 {
			raw := stretched(w)
			for range 1 + next()%3 {
				raw[int(next())%len(w)] ^= 1
			}
			agrees(t, raw)
		}
		if i%5 == 0 {
			at := int(next()) % len(w)
			agrees(t, slices.Concat(w[:at], w[min(at+1, len(w)):], w))
			agrees(t, slices.Concat(w[:at], w))
		}
	}
}

func TestEachBitTurned(t *testing.T) {
	for i, f := range shorts() {
		if i%11 != 0 {
			continue
		}
		raw := stretched(wire(t, f).Bits)
		for i := range raw {
			raw[i] ^= 1
			agrees(t, raw)
			raw[i] ^= 1
		}
	}
}

func TestRowsOfMixedBits(t *testing.T) {
	next := draw()
	for range 3000 {
		raw := make([]byte, 1+next()%300)
		for i := range raw {
			raw[i] = byte(next() & 1)
		}
		raw[0] = 0
		agrees(t, raw)
		// With stuff bits in order a row comes further.
		agrees(t, put(t, raw))
	}
}

// P9.2

func TestANewMachine(t *testing.T) {
	for _, xl := range []bool{true, false} {
		m := scan.New(xl)
		if s, e := m.Status(); e != api.OK || !same(s, scan.Status{}) || m.Seen() != 0 {
			t.Errorf("%v: %+v, %d, %d", xl, s, e, m.Seen())
		}
	}
}

func TestSeeRefuses(t *testing.T) {
	for _, f := range []api.Frame{{Kind: api.Classic, ID: 7, Data: []byte{1}}, {Kind: api.FD, ID: 7, Data: []byte{1}}, {Kind: api.XL, ID: 7, Data: []byte{1}}} {
		raw := stretched(wire(t, f).Bits)
		want, _ := told(raw, true)
		m := scan.New(true)
		for i, b := range raw {
			for _, no := range []byte{2, 3, 4, '0', '1', 128, 254, 255} {
				if s, e := m.See(no); e != api.ErrArg || !same(s, scan.Status{}) {
					t.Fatalf("%d behind %d bits: %+v, %d", no, i, s, e)
				}
			}
			if s, e := m.Status(); e != api.OK || !same(s, want[i]) || m.Seen() != i {
				t.Fatalf("%d bits: %+v, %d, %d, wanted %+v", i, s, e, m.Seen(), want[i])
			}
			if s, e := m.See(b); e != api.OK || !same(s, want[i+1]) || m.Seen() != i+1 {
				t.Fatalf("%d bits: %+v, %d, %d, wanted %+v", i+1, s, e, m.Seen(), want[i+1])
			}
		}
	}
}

func TestAllBitsAreSeen(t *testing.T) {
	for _, s := range []string{"1", "000000", "0 10101010101 0011"} {
		m := scan.New(false)
		for i := range 100000 {
			b := byte(i & 1)
			if i < len(row(s)) {
				b = row(s)[i]
			}
			if _, e := m.See(b); e != api.OK || m.Seen() != i+1 {
				t.Fatalf("%s: %d, %d, wanted %d", s, e, m.Seen(), i+1)
			}
		}
	}
}

func TestNoMachine(t *testing.T) {
	var m *scan.Machine
	for _, b := range []byte{0, 1, 0, 1} {
		if s, e := m.See(b); e != api.ErrNil || !same(s, scan.Status{}) {
			t.Errorf("See(%d): %+v, %d", b, s, e)
		}
	}
	if s, e := m.See(2); e == api.OK || !same(s, scan.Status{}) {
		t.Errorf("See(2): %+v, %d", s, e)
	}
	if s, e := m.Status(); e != api.ErrNil || !same(s, scan.Status{}) {
		t.Errorf("Status: %+v, %d", s, e)
	}
	if n := m.Seen(); n != 0 {
		t.Errorf("Seen: %d", n)
	}
}

func TestMachinesAreIndependent(t *testing.T) {
	l := shorts()
	var machines []*scan.Machine
	var rows [][]byte
	longest := 0
	for i, f := range l {
		machines = append(machines, scan.New(i%2 == 0))
		rows = append(rows, stretched(wire(t, f).Bits))
		longest = max(longest, len(rows[i]))
	}
	for n := range longest {
		for i, m := range machines {
			if n < len(rows[i]) {
				m.See(rows[i][n])
			}
		}
	}
	for i, m := range machines {
		want, _ := told(rows[i], i%2 == 0)
		if s, e := m.Status(); e != api.OK || !same(s, want[len(rows[i])]) || m.Seen() != len(rows[i]) {
			t.Errorf("%+v: %+v, %d, %d", l[i], s, e, m.Seen())
		}
	}
}

// P9.3

func TestDoneOneBitAheadOfTheEnd(t *testing.T) {
	for _, f := range slices.Concat(shorts(), longs()) {
		w := wire(t, f)
		m := scan.New(true)
		for i, b := range w.Bits {
			want := scan.Status{}
			if i+1 == w.Ack {
				want.Kind = scan.Slot
			}
			if i >= len(w.Bits)-2 {
				want = scan.Status{Kind: scan.Done, F: f}
			}
			if s, e := m.See(b); e != api.OK || !same(s, want) {
				t.Fatalf("%+v, bit %d of %d: %+v, %d, wanted %+v", f, i, len(w.Bits), s, e, want)
			}
		}
	}
}

// begins is the first bit from which on no turned one may be Done: where the fixed part of an FD frame begins, or an XL frame's bits that don't arbitrate, or the delimiter.
func begins(t *testing.T, f api.Frame, w api.Wire) int {
	t.Helper()
	switch f.Kind {
	case api.FD:
		l, e := fd.Body(f)
		if e != api.OK {
			t.Fatal(e)
		}
		return len(put(t, l))
	case api.XL:
		return w.Arb
	}
	return w.Ack - 1
}

func TestATurnedBitIsNotDone(t *testing.T) {
	for _, f := range shorts() {
		w := wire(t, f)
		for i := begins(t, f, w); i < len(w.Bits)-1; i++ {
			if i == w.Ack {
				continue
			}
			raw := bytes.Clone(w.Bits)
			raw[i] ^= 1
			if s, e := scan.Scan(raw, true); e != api.OK || s.Kind == scan.Done || !frame.Same(s.F, api.Frame{}) {
				t.Fatalf("%+v, bit %d: %+v, %d", f, i, s, e)
			}
		}
	}
}

func TestATurnedBitOfALongFrameIsNotDone(t *testing.T) {
	f := longs()[2]
	w := wire(t, f)
	for i := begins(t, f, w); i < len(w.Bits)-1; i++ {
		if i == w.Ack {
			continue
		}
		raw := bytes.Clone(w.Bits)
		raw[i] ^= 1
		if s, e := scan.Scan(raw, true); e != api.OK || s.Kind == scan.Done {
			t.Fatalf("bit %d: %d, %d", i, s.Kind, e)
		}
	}
}

func TestTheLastBitMayBeEither(t *testing.T) {
	for _, f := range shorts() {
		w := wire(t, f)
		w.Bits[len(w.Bits)-1] = 0
		if s, e := scan.Scan(w.Bits, true); e != api.OK || !same(s, scan.Status{Kind: scan.Done, F: f}) {
			t.Errorf("%+v: %+v, %d", f, s, e)
		}
	}
}

// DOC.md's rules of lists, and of what answers hang on

func TestNilAndEmptyAreOne(t *testing.T) {
	for _, raw := range [][]byte{nil, {}} {
		if s, e := scan.Scan(raw, true); e != api.OK || !same(s, scan.Status{}) {
			t.Errorf("%+v, %d", s, e)
		}
	}
}

func TestWhatIsHandedInStays(t *testing.T) {
	for _, f := range shorts() {
		raw := wire(t, f).Bits
		room := append(bytes.Clone(raw), 7, 7, 7, 7)
		before := bytes.Clone(room)
		s, _ := scan.Scan(room[:len(raw)], true)
		spoil(s.F.Data)
		if !bytes.Equal(room, before) {
			t.Fatalf("%+v: %v", f, room)
		}
	}
}

// spoil writes into a list, its spare room included.
func spoil(l []byte) {
	l = l[:cap(l)]
	for i := range l {
		l[i] ^= 0x5a
	}
}

func TestAnswersAreNew(t *testing.T) {
	for _, f := range shorts() {
		m := scan.New(true)
		raw := stretched(wire(t, f).Bits)
		for _, b := range raw {
			s, _ := m.See(b)
			spoil(s.F.Data)
			s, _ = m.Status()
			spoil(s.F.Data)
		}
		a, _ := m.Status()
		b, _ := m.See(0)
		spoil(a.F.Data)
		if !frame.Same(b.F, f) {
			t.Fatalf("%+v: %+v", f, b)
		}
		if s, e := scan.Scan(raw, true); e != api.OK || !frame.Same(s.F, f) {
			t.Fatalf("%+v: %+v, %d", f, s, e)
		}
	}
}
