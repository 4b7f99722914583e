package order_test

import (
	"bytes"
	"math"
	"math/rand"
	"slices"
	"sort"
	"strconv"
	"strings"
	"testing"

	"omnibus/api"
	"omnibus/classic"
	"omnibus/fd"
	"omnibus/frame"
	"omnibus/order"
	"omnibus/xl"
)

// digits is a number as so many bits, the highest first.
func digits(n uint32, size int) string {
	s := strconv.FormatUint(uint64(n), 2)
	return strings.Repeat("0", size-len(s)) + s
}

func digit(b bool) string {
	if b {
		return "1"
	}
	return "0"
}

// told is a frame's key as 34 bits, field by field as the chapter tells it.
func told(f api.Frame) string {
	if f.Ext {
		id := digits(f.ID, 29)
		return id[:11] + "1" + "1" + id[11:] + digit(f.RTR) + "0" + "0"
	}
	return digits(f.ID, 11) + digit(f.RTR) + "0" + digit(f.Kind != api.Classic) + digit(f.Kind == api.XL) + strings.Repeat("0", 19)
}

// ids are IDs of so many bits: the ends, each bit alone, each but one, and some mixed ones.
func ids(size int) []uint32 {
	all := uint32(1)<<size - 1
	l := []uint32{0, all, 1365 & all, 0x15555555 & all, 0x0aaaaaaa & all, 0x12345678 & all}
	for i := range size {
		l = append(l, 1<<i, all&^(1<<i))
	}
	slices.Sort(l)
	return slices.Compact(l)
}

// frames are some of all kinds that may be. All sorts of one ID are among them.
func frames() []api.Frame {
	var l []api.Frame
	for _, id := range ids(11) {
		l = append(l, ofOneID(id)...)
	}
	for _, id := range ids(29) {
		l = append(l, api.Frame{Kind: api.Classic, Ext: true, ID: id, Data: []byte{1}}, api.Frame{Kind: api.Classic, Ext: true, ID: id, RTR: true})
	}
	return l
}

// ofOneID are the frames of one ID's eleven bits, as they win one after the other. No two have one key.
func ofOneID(id uint32) []api.Frame {
	return []api.Frame{
		{Kind: api.Classic, ID: id, Data: []byte{255}},
		{Kind: api.FD, ID: id, BRS: true, ESI: true, Data: []byte{255, 255}},
		{Kind: api.XL, ID: id, SEC: true, SDT: 255, VCID: 255, AF: math.MaxUint32, Data: []byte{255, 255, 255}},
		{Kind: api.Classic, ID: id, RTR: true},
		{Kind: api.Classic, Ext: true, ID: id << 18},
		{Kind: api.Classic, Ext: true, ID: id << 18, RTR: true},
		{Kind: api.Classic, Ext: true, ID: id<<18 | 1},
		{Kind: api.Classic, Ext: true, ID: id<<18 | 1<<17, RTR: true},
		{Kind: api.Classic, Ext: true, ID: (id+1)<<18 - 1},
		{Kind: api.Classic, Ext: true, ID: (id+1)<<18 - 1, RTR: true},
	}
}

// wrong are frames that may not be, of each sort.
func wrong() map[string]api.Frame {
	one := []byte{1}
	return map[string]api.Frame{
		"no kind":                 {},
		"no kind, Data":           {ID: 5, Data: one},
		"kind 4":                  {Kind: 4, Data: one},
		"kind -1":                 {Kind: -1},
		"the least kind":          {Kind: math.MinInt},
		"the greatest kind":       {Kind: math.MaxInt},
		"kind 2^32 and 1":         {Kind: 1<<32 + 1},
		"Classic ID":              {Kind: api.Classic, ID: 1 << 11},
		"Classic ID, RTR":         {Kind: api.Classic, ID: 1 << 11, RTR: true},
		"greatest Classic ID":     {Kind: api.Classic, ID: math.MaxUint32},
		"Classic ID of Ext":       {Kind: api.Classic, Ext: true, ID: 1 << 29},
		"greatest ID of Ext":      {Kind: api.Classic, Ext: true, ID: math.MaxUint32},
		"Classic RTR, Data":       {Kind: api.Classic, RTR: true, Data: one},
		"Classic Ext, RTR, Data":  {Kind: api.Classic, Ext: true, RTR: true, Data: one},
		"Classic Data":            {Kind: api.Classic, Data: make([]byte, 9)},
		"Classic Data of Ext":     {Kind: api.Classic, Ext: true, Data: make([]byte, 9)},
		"Classic BRS":             {Kind: api.Classic, BRS: true},
		"Classic ESI":             {Kind: api.Classic, ESI: true},
		"Classic SEC":             {Kind: api.Classic, SEC: true},
		"Classic SDT":             {Kind: api.Classic, SDT: 1},
		"Classic VCID":            {Kind: api.Classic, VCID: 1},
		"Classic AF":              {Kind: api.Classic, AF: 1},
		"FD ID":                   {Kind: api.FD, ID: 1 << 11},
		"FD Ext":                  {Kind: api.FD, Ext: true},
		"FD RTR":                  {Kind: api.FD, RTR: true},
		"FD SEC":                  {Kind: api.FD, SEC: true},
		"FD AF":                   {Kind: api.FD, AF: 1},
		"FD Data of 9":            {Kind: api.FD, Data: make([]byte, 9)},
		"FD Data of 65":           {Kind: api.FD, Data: make([]byte, 65)},
		"XL without Data":         {Kind: api.XL},
		"XL with empty Data":      {Kind: api.XL, Data: []byte{}},
		"XL Data":                 {Kind: api.XL, Data: make([]byte, api.MaxData+1)},
		"XL ID":                   {Kind: api.XL, ID: 1 << 11, Data: one},
		"XL Ext":                  {Kind: api.XL, Ext: true, Data: one},
		"XL RTR":                  {Kind: api.XL, RTR: true, Data: one},
		"XL BRS":                  {Kind: api.XL, BRS: true, Data: one},
		"XL ESI":                  {Kind: api.XL, ESI: true, Data: one},
		"all fields of all kinds": {Kind: api.XL, ID: math.MaxUint32, Ext: true, RTR: true, BRS: true, ESI: true, SEC: true, SDT: 255, VCID: 255, AF: math.MaxUint32, Data: one},
	}
}

// P10.1

func keyIs(t *testing.T, f api.Frame) {
	t.Helper()
	want, err := strconv.ParseUint(told(f), 2, 34)
	if err != nil {
		t.Fatal(err)
	}
	if k, e := order.Key(f); k != want || e != api.OK {
		t.Errorf("%+v: %034b, %d, wanted %034b", f, k, e, want)
	}
}

func TestKeyOfAllShorterIDs(t *testing.T) {
	for id := range uint32(2048) {
		for _, f := range ofOneID(id) {
			keyIs(t, f)
		}
	}
}

func TestKeyOfLongerIDs(t *testing.T) {
	for _, id := range ids(29) {
		for _, rtr := range []bool{false, true} {
			keyIs(t, api.Frame{Kind: api.Classic, Ext: true, ID: id, RTR: rtr})
		}
	}
	for id := range uint32(1 << 14) {
		keyIs(t, api.Frame{Kind: api.Classic, Ext: true, ID: id * 32767, RTR: id%2 == 0})
	}
}

// Keys reckoned by hand: each field alone.
func TestKeysFields(t *testing.T) {
	one := []byte{1}
	for _, x := range []struct {
		f    api.Frame
		want uint64
	}{
		{api.Frame{Kind: api.Classic}, 0},
		{api.Frame{Kind: api.Classic, ID: 1}, 0x800000},
		{api.Frame{Kind: api.Classic, ID: 2047}, 0x3ff800000},
		{api.Frame{Kind: api.Classic, RTR: true}, 0x400000},
		{api.Frame{Kind: api.FD}, 0x100000},
		{api.Frame{Kind: api.FD, ID: 2047}, 0x3ff900000},
		{api.Frame{Kind: api.XL, Data: one}, 0x180000},
		{api.Frame{Kind: api.XL, ID: 2047, Data: one}, 0x3ff980000},
		{api.Frame{Kind: api.Classic, Ext: true}, 0x600000},
		{api.Frame{Kind: api.Classic, Ext: true, RTR: true}, 0x600004},
		{api.Frame{Kind: api.Classic, Ext: true, ID: 1}, 0x600008},
		{api.Frame{Kind: api.Classic, Ext: true, ID: 1<<18 - 1}, 0x7ffff8},
		{api.Frame{Kind: api.Classic, Ext: true, ID: 1 << 18}, 0xe00000},
		{api.Frame{Kind: api.Classic, Ext: true, ID: 1<<29 - 1}, 0x3fffffff8},
		{api.Frame{Kind: api.Classic, Ext: true, ID: 1<<29 - 1, RTR: true}, 0x3fffffffc},
	} {
		if k, e := order.Key(x.f); k != x.want || e != api.OK {
			t.Errorf("%+v: %x, %d, wanted %x", x.f, k, e, x.want)
		}
	}
}

// What doesn't arbitrate is in no key.
func TestKeyIsOfNothingElse(t *testing.T) {
	for _, l := range [][]api.Frame{
		{{Kind: api.Classic, ID: 5}, {Kind: api.Classic, ID: 5, Data: []byte{}}, {Kind: api.Classic, ID: 5, Data: []byte{1}}, {Kind: api.Classic, ID: 5, Data: []byte{255, 255, 255, 255, 255, 255, 255, 255}}},
		{{Kind: api.Classic, Ext: true, ID: 5}, {Kind: api.Classic, Ext: true, ID: 5, Data: []byte{1, 2, 3}}},
		{{Kind: api.FD, ID: 5}, {Kind: api.FD, ID: 5, BRS: true}, {Kind: api.FD, ID: 5, ESI: true}, {Kind: api.FD, ID: 5, Data: make([]byte, 64)}},
		{{Kind: api.XL, ID: 5, Data: []byte{0}}, {Kind: api.XL, ID: 5, SEC: true, Data: []byte{0}}, {Kind: api.XL, ID: 5, SDT: 255, Data: []byte{0}}, {Kind: api.XL, ID: 5, VCID: 255, Data: []byte{0}}, {Kind: api.XL, ID: 5, AF: math.MaxUint32, Data: []byte{0}}, {Kind: api.XL, ID: 5, Data: make([]byte, 2048)}},
	} {
		for i, a := range l {
			keyIs(t, a)
			for j, b := range l {
				if n, e := order.Compare(a, b); n != 0 || e != api.OK {
					t.Errorf("kind %d, frames %d and %d: %d, %d", a.Kind, i, j, n, e)
				}
			}
		}
	}
}

func TestKeyAndCompareRefuse(t *testing.T) {
	for name, f := range wrong() {
		if k, e := order.Key(f); k != 0 || e != api.ErrArg {
			t.Errorf("Key of %s: %d, %d", name, k, e)
		}
		for _, g := range append(ofOneID(5), f, api.Frame{Kind: 7}) {
			if n, e := order.Compare(f, g); n != 0 || e != api.ErrArg {
				t.Errorf("Compare of %s and %+v: %d, %d", name, g, n, e)
			}
			if n, e := order.Compare(g, f); n != 0 || e != api.ErrArg {
				t.Errorf("Compare of %+v and %s: %d, %d", g, name, n, e)
			}
		}
	}
}

func TestCompare(t *testing.T) {
	l := frames()
	for _, a := range l {
		for _, b := range l {
			if n, e := order.Compare(a, b); n != strings.Compare(told(a), told(b)) || e != api.OK {
				t.Errorf("%+v and %+v: %d, %d", a, b, n, e)
			}
		}
	}
}

// The chapter's example, and of one ID all else.
func TestOfOneID(t *testing.T) {
	for id := range uint32(2048) {
		l := ofOneID(id)
		if id < 2047 {
			l = append(l, api.Frame{Kind: api.Classic, ID: id + 1})
		}
		for i, a := range l {
			for j, b := range l {
				want := 0
				if i < j {
					want = -1
				} else if i > j {
					want = 1
				}
				if n, e := order.Compare(a, b); n != want || e != api.OK {
					t.Errorf("ID %d, frames %d and %d: %d, %d", id, i, j, n, e)
				}
			}
		}
	}
}

// P10.2

// ranked are all places, by rising keys, told by another sort.
func ranked(l []api.Frame) []int {
	var at []int
	for i := range l {
		at = append(at, i)
	}
	sort.SliceStable(at, func(i, j int) bool { return told(l[at[i]]) < told(l[at[j]]) })
	return at
}

func ranksAs(t *testing.T, l []api.Frame) {
	t.Helper()
	want := ranked(l)
	if r, e := order.Rank(l); !slices.Equal(r, want) || e != api.OK {
		t.Errorf("Rank of %d: %v, %d, wanted %v", len(l), r, e, want)
	}
	first, e := 0, api.ErrNone
	if len(l) > 0 {
		first, e = want[0], api.OK
	}
	if n, g := order.First(l); n != first || g != e {
		t.Errorf("First of %d: %d, %d, wanted %d, %d", len(l), n, g, first, e)
	}
}

// lists is all lists of up to n of these.
func lists(of []api.Frame, n int, each func([]api.Frame)) {
	var grow func(l []api.Frame)
	grow = func(l []api.Frame) {
		each(l)
		if len(l) == n {
			return
		}
		for _, f := range of {
			grow(append(l, f))
		}
	}
	grow(nil)
}

func TestAllShortLists(t *testing.T) {
	lists(ofOneID(5)[:5], 5, func(l []api.Frame) { ranksAs(t, l) })
	lists([]api.Frame{{Kind: api.FD, ID: 5}, {Kind: api.FD, ID: 5, BRS: true}, {Kind: api.Classic, ID: 6}}, 7, func(l []api.Frame) { ranksAs(t, l) })
}

func TestLongLists(t *testing.T) {
	mix := rand.New(rand.NewSource(10))
	all := frames()
	for n := range 200 {
		var l []api.Frame
		for range n {
			l = append(l, all[mix.Intn(len(all))])
		}
		ranksAs(t, l)
		slices.Reverse(all)
	}
	l := slices.Repeat(all, 20)
	mix.Shuffle(len(l), func(i, j int) { l[i], l[j] = l[j], l[i] })
	ranksAs(t, l)
}

func TestRisingAndFallingLists(t *testing.T) {
	var l []api.Frame
	for id := range uint32(2048) {
		l = append(l, ofOneID(id)...)
	}
	ranksAs(t, l)
	slices.Reverse(l)
	ranksAs(t, l)
}

// Of one key places are told as they stand, the first one first, in long lists, too.
func TestOfOneKey(t *testing.T) {
	for _, n := range []int{1, 2, 3, 4, 5, 17, 64, 1000} {
		for _, f := range ofOneID(2047) {
			ranksAs(t, slices.Repeat([]api.Frame{f}, n))
			ranksAs(t, slices.Repeat([]api.Frame{{Kind: api.FD, ID: 2047, Data: []byte{1}}, f, {Kind: api.FD, ID: 2047}}, n))
		}
	}
}

func TestOfNone(t *testing.T) {
	for _, l := range [][]api.Frame{nil, {}, frames()[:0]} {
		if n, e := order.First(l); n != 0 || e != api.ErrNone {
			t.Error(n, e)
		}
		if r, e := order.Rank(l); len(r) != 0 || e != api.OK {
			t.Error(r, e)
		}
	}
}

func TestFirstAndRankRefuse(t *testing.T) {
	for name, f := range wrong() {
		for n := range 8 {
			for at := range n + 1 {
				l := slices.Insert(slices.Clone(frames()[:n]), at, f)
				if k, e := order.First(l); k != 0 || e != api.ErrArg {
					t.Errorf("First of %d, %s at %d: %d, %d", n, name, at, k, e)
				}
				if r, e := order.Rank(l); len(r) != 0 || e != api.ErrArg {
					t.Errorf("Rank of %d, %s at %d: %v, %d", n, name, at, r, e)
				}
			}
		}
	}
}

// P10.3

func wire(t *testing.T, f api.Frame) []byte {
	t.Helper()
	of := map[int]func(api.Frame) (api.Wire, api.Errno){api.Classic: classic.Wire, api.FD: fd.Wire, api.XL: xl.Wire}
	w, e := of[f.Kind](f)
	if e != api.OK {
		t.Fatalf("%+v: %d", f, e)
	}
	return w.Bits
}

// first is the first place where both rows differ.
func first(a, b []byte) int {
	for i := range min(len(a), len(b)) {
		if a[i] != b[i] {
			return i
		}
	}
	return -1
}

func TestTheLowerKeyIsDominantWhereBothDifferFirst(t *testing.T) {
	l := frames()
	var wires [][]byte
	for _, f := range l {
		wires = append(wires, wire(t, f))
	}
	for i, a := range l {
		for j, b := range l {
			n, e := order.Compare(a, b)
			if e != api.OK {
				t.Fatal(e)
			}
			if n == 0 {
				continue
			}
			at := first(wires[i], wires[j])
			if at < 0 || wires[i][at] == 0 != (n < 0) {
				t.Errorf("%+v and %+v: %d, but they differ first at %d", a, b, n, at)
			}
		}
	}
}

// DOC.md's rules of lists, and of what answers hang on

func TestNilAndEmptyAreOne(t *testing.T) {
	for _, f := range []api.Frame{{Kind: api.Classic, ID: 5}, {Kind: api.Classic, ID: 5, RTR: true}, {Kind: api.FD, ID: 5}, {Kind: api.XL, ID: 5}} {
		g := f
		g.Data = []byte{}
		a, d := order.Key(f)
		b, e := order.Key(g)
		if a != b || d != e {
			t.Errorf("%+v: nil and empty Data differ", f)
		}
	}
}

func TestWhatIsHandedInStays(t *testing.T) {
	room := data()
	before := data()
	all := frames()[:40]
	slices.Reverse(all)
	for i := range all {
		if len(all[i].Data) > 0 {
			all[i].Data = room[i : i+1]
		}
	}
	kept := slices.Clone(all)
	for n := range all {
		l := all[:n]
		order.Rank(l)
		order.First(l)
		order.Key(all[n])
		order.Compare(all[n], all[0])
	}
	if !bytes.Equal(room, before) {
		t.Error("bytes are written into:", room)
	}
	if !slices.EqualFunc(all, kept, frame.Same) {
		t.Error("frames are moved:", all)
	}
}

// data are bytes that tell their places.
func data() []byte {
	var l []byte
	for i := range 64 {
		l = append(l, byte(i+1))
	}
	return l
}

func TestAnswersAreNew(t *testing.T) {
	l := slices.Repeat(ofOneID(5), 3)
	want := ranked(l)
	a, _ := order.Rank(l)
	b, _ := order.Rank(l)
	for i := range a[:cap(a)] {
		a[:cap(a)][i] = -1
	}
	c, _ := order.Rank(l)
	if !slices.Equal(b, want) || !slices.Equal(c, want) {
		t.Error("answers share memory:", b, c)
	}
}
