package frame_test

import (
	"bytes"
	"math"
	"reflect"
	"slices"
	"testing"

	"omnibus/api"
	"omnibus/frame"
)

// kinds are those that there are.
var kinds = []int{api.Classic, api.FD, api.XL}

// noKinds are some that there aren't.
var noKinds = []int{0, -1, -2, -3, 4, 5, 8, 255, 257, 1<<32 + 1, 1<<32 + 2, 1<<32 + 3, math.MaxInt, math.MinInt}

// fdSizes are an FD frame's, each at its code.
var fdSizes = []int{0, 1, 2, 3, 4, 5, 6, 7, 8, 12, 16, 20, 24, 32, 48, 64}

// sizesOf are a kind's, each at its code, told without the package that is tested.
func sizesOf(kind int) []int {
	switch kind {
	case api.Classic:
		return fdSizes[:9]
	case api.FD:
		return fdSizes
	case api.XL:
		var l []int
		for n := 1; n <= 2048; n++ {
			l = append(l, n)
		}
		return l
	}
	return nil
}

// numbers are sizes, or codes, to ask of: all that a kind could have, and some that none has.
func numbers() []int {
	l := []int{math.MinInt, math.MinInt + 1, -1 << 32, 1<<32 - 1, 1 << 32, 1<<32 + 1, 1<<32 + 12, 65536, math.MaxInt - 1, math.MaxInt}
	for n := -70; n < 2200; n++ {
		l = append(l, n)
	}
	return l
}

// data are n bytes that tell their places.
func data(n int) []byte {
	var l []byte
	for i := range n {
		l = append(l, byte(i*7+i>>8+1))
	}
	return l
}

// full is a frame with something in each field; it may not be.
func full() api.Frame {
	return api.Frame{Kind: api.FD, ID: 0x12345, Ext: true, RTR: true, BRS: true, ESI: true, SEC: true, SDT: 0x81, VCID: 0x42, AF: 0x87654321, Data: data(5)}
}

// plain is a frame of a kind with the least of all that it must have.
func plain(kind int) api.Frame {
	f := api.Frame{Kind: kind}
	if kind == api.XL {
		f.Data = []byte{0}
	}
	return f
}

// P5.1

// maybe says whether a frame may be, field by field as the chapter tells it.
func maybe(f api.Frame) bool {
	none := func(zero ...bool) bool { return !slices.Contains(zero, false) }
	ids := uint32(2048)
	if f.Ext {
		ids = 536870912
	}
	sized := slices.Contains(sizesOf(f.Kind), len(f.Data))
	switch f.Kind {
	case api.Classic:
		return f.ID < ids && (f.RTR && len(f.Data) == 0 || !f.RTR && sized) &&
			none(!f.BRS, !f.ESI, !f.SEC, f.SDT == 0, f.VCID == 0, f.AF == 0)
	case api.FD:
		return f.ID < ids && sized && none(!f.Ext, !f.RTR, !f.SEC, f.SDT == 0, f.VCID == 0, f.AF == 0)
	case api.XL:
		return f.ID < ids && sized && none(!f.Ext, !f.RTR, !f.BRS, !f.ESI)
	}
	return false
}

func checkAs(t *testing.T, f api.Frame) {
	t.Helper()
	want := api.ErrArg
	if maybe(f) {
		want = api.OK
	}
	if e := frame.Check(f); e != want {
		n := len(f.Data)
		f.Data = nil
		t.Errorf("%+v with %d bytes: %d, wanted %d", f, n, e, want)
	}
}

func TestCheckOfAllFieldsTogether(t *testing.T) {
	lists := [][]byte{nil, {}, data(1), data(8), data(9), data(12)}
	for _, kind := range append(noKinds, kinds...) {
		for x := range 256 {
			on := func(i int) bool { return x>>i&1 == 1 }
			f := api.Frame{Kind: kind, Ext: on(0), RTR: on(1), BRS: on(2), ESI: on(3), SEC: on(4), SDT: uint8(x >> 5 & 1), VCID: uint8(x >> 6 & 1 << 7), AF: uint32(x) >> 7 << 31}
			for _, f.ID = range []uint32{0, 2047, 2048, 1<<29 - 1, 1 << 29} {
				for _, f.Data = range lists {
					checkAs(t, f)
				}
			}
		}
	}
}

func TestCheckOfIdentifiers(t *testing.T) {
	ids := []uint32{1<<29 - 1, 1 << 29, 1<<29 + 1, 1 << 30, 1 << 31, 1<<32 - 1, 1<<16 + 5}
	for id := range uint32(2100) {
		ids = append(ids, id)
	}
	for _, kind := range kinds {
		for _, ext := range []bool{false, true} {
			for _, rtr := range []bool{false, true} {
				f := plain(kind)
				f.Ext, f.RTR = ext, rtr
				for _, f.ID = range ids {
					checkAs(t, f)
				}
			}
		}
	}
}

func TestCheckOfSizes(t *testing.T) {
	for _, kind := range append(noKinds, kinds...) {
		for n := range 2100 {
			checkAs(t, api.Frame{Kind: kind, Data: data(n)})
		}
		for _, n := range []int{4096, 65536, 65536 + 8, 1 << 20} {
			checkAs(t, api.Frame{Kind: kind, Data: make([]byte, n)})
		}
	}
	for n := range 100 {
		checkAs(t, api.Frame{Kind: api.Classic, RTR: true, Data: data(n)})
		checkAs(t, api.Frame{Kind: api.Classic, RTR: true, Ext: true, Data: data(n)})
	}
}

func TestCheckOfAnXLFramesNumbers(t *testing.T) {
	for n := range 256 {
		for _, kind := range kinds {
			f := plain(kind)
			f.SDT = uint8(n)
			checkAs(t, f)
			f = plain(kind)
			f.VCID = uint8(n)
			checkAs(t, f)
		}
	}
	for i := range 32 {
		for _, kind := range kinds {
			f := plain(kind)
			f.AF = 1 << i
			checkAs(t, f)
		}
	}
	f := api.Frame{Kind: api.XL, ID: 2047, SEC: true, SDT: 255, VCID: 255, AF: math.MaxUint32, Data: data(2048)}
	if e := frame.Check(f); e != api.OK {
		t.Error(e)
	}
}

// changed are frames that differ from this one in a field each, by the field's name. Fields that api.Frame may yet get are among them.
func changed(t *testing.T, f api.Frame) map[string][]api.Frame {
	others := map[string][]api.Frame{}
	shape := reflect.TypeFor[api.Frame]()
	for i := range shape.NumField() {
		name := shape.Field(i).Name
		add := func(set func(reflect.Value)) {
			g := f
			g.Data = bytes.Clone(f.Data)
			set(reflect.ValueOf(&g).Elem().Field(i))
			others[name] = append(others[name], g)
		}
		switch v := reflect.ValueOf(f).Field(i); v.Kind() {
		case reflect.Bool:
			add(func(x reflect.Value) { x.SetBool(!v.Bool()) })
		case reflect.Int:
			for b := range 64 {
				add(func(x reflect.Value) { x.SetInt(v.Int() ^ 1<<b) })
			}
		case reflect.Uint8, reflect.Uint32:
			for b := range v.Type().Bits() {
				add(func(x reflect.Value) { x.SetUint(v.Uint() ^ 1<<b) })
			}
		case reflect.Slice:
			for at := range 8 * v.Len() {
				add(func(x reflect.Value) { x.Index(at / 8).SetUint(x.Index(at/8).Uint() ^ 1<<(at%8)) })
			}
			add(func(x reflect.Value) { x.SetBytes(append(x.Bytes(), 0)) })
			add(func(x reflect.Value) { x.SetBytes(append([]byte{0}, x.Bytes()...)) })
			if v.Len() > 0 {
				add(func(x reflect.Value) { x.SetBytes(x.Bytes()[1:]) })
				add(func(x reflect.Value) { x.SetBytes(x.Bytes()[:v.Len()-1]) })
			}
		default:
			t.Fatal("a field of another type:", name)
		}
	}
	return others
}

// some are frames of all kinds, and of none; some may be.
func some() []api.Frame {
	return []api.Frame{
		{}, full(), {Kind: 9, Data: []byte{1}}, {Kind: math.MinInt}, {Data: make([]byte, 3000)},
		{Kind: api.Classic}, {Kind: api.Classic, ID: 2047, RTR: true}, {Kind: api.Classic, ID: 1<<29 - 1, Ext: true, Data: data(8)},
		{Kind: api.FD, ID: 5, BRS: true, Data: data(12)}, {Kind: api.FD, ESI: true, Data: data(64)},
		{Kind: api.XL, SEC: true, SDT: 3, VCID: 4, AF: 5, Data: data(20)}, {Kind: api.XL, AF: math.MaxUint32, Data: data(2048)},
	}
}

func TestSame(t *testing.T) {
	all := some()
	for i, a := range all {
		for j, b := range all {
			if frame.Same(a, b) != (i == j) {
				t.Errorf("frames %d and %d: %t", i, j, i != j)
			}
		}
		other := a
		other.Data = append(make([]byte, 0, len(a.Data)+9), a.Data...)
		if !frame.Same(a, other) || !frame.Same(other, a) {
			t.Errorf("frame %d, and it with its Data elsewhere", i)
		}
	}
}

func TestNotSameIfAnyFieldDiffers(t *testing.T) {
	for i, f := range some() {
		if len(f.Data) > 64 {
			continue
		}
		for name, others := range changed(t, f) {
			for j, g := range others {
				if frame.Same(f, g) || frame.Same(g, f) {
					t.Errorf("frame %d: another %s (%d)", i, name, j)
				}
			}
		}
	}
}

func TestSameOfNilAndEmpty(t *testing.T) {
	for _, kind := range []int{0, api.Classic, api.FD, api.XL} {
		a, b := api.Frame{Kind: kind}, api.Frame{Kind: kind, Data: []byte{}}
		if !frame.Same(a, b) || !frame.Same(b, a) || !frame.Same(b, b) {
			t.Errorf("kind %d: nil and empty Data", kind)
		}
		if frame.Check(a) != frame.Check(b) {
			t.Errorf("kind %d: nil and empty Data are checked apart", kind)
		}
	}
}

func TestCopy(t *testing.T) {
	for i, f := range some() {
		g := frame.Copy(f)
		if len(f.Data) == 0 && len(g.Data) == 0 {
			g.Data = f.Data
		}
		if !reflect.DeepEqual(f, g) {
			t.Errorf("frame %d: another one", i)
		}
	}
	for name, others := range changed(t, full()) {
		for i, f := range others {
			if g := frame.Copy(f); !reflect.DeepEqual(f, g) {
				t.Errorf("%s (%d): another one", name, i)
			}
		}
	}
}

func TestACopysDataIsNew(t *testing.T) {
	for n := range 40 {
		room := data(50)
		before := bytes.Clone(room)
		f := api.Frame{Kind: api.FD, Data: room[:n]}
		first, second := frame.Copy(f), frame.Copy(f)
		for i := range first.Data[:cap(first.Data)] {
			first.Data[:cap(first.Data)][i] = 99
		}
		if !bytes.Equal(room, before) {
			t.Fatalf("%d bytes: it shares memory with the first one", n)
		}
		if !bytes.Equal(second.Data, before[:n]) {
			t.Fatalf("%d bytes: two copies share memory", n)
		}
		third := frame.Copy(f)
		for i := range room {
			room[i] = 77
		}
		if !bytes.Equal(third.Data, before[:n]) {
			t.Fatalf("%d bytes: it changes with the first one", n)
		}
	}
}

// P5.2

func TestCode(t *testing.T) {
	for _, kind := range kinds {
		for _, size := range numbers() {
			want, e := slices.Index(sizesOf(kind), size), api.OK
			if want < 0 {
				want, e = 0, api.ErrArg
			}
			if got, f := frame.Code(kind, size); got != want || f != e {
				t.Errorf("Code(%d, %d): %d, %d", kind, size, got, f)
			}
		}
	}
}

func TestSize(t *testing.T) {
	for _, kind := range kinds {
		sizes := sizesOf(kind)
		for _, code := range numbers() {
			want, e := 0, api.ErrArg
			if code >= 0 && code < len(sizes) {
				want, e = sizes[code], api.OK
			}
			if got, f := frame.Size(kind, code); got != want || f != e {
				t.Errorf("Size(%d, %d): %d, %d", kind, code, got, f)
			}
		}
	}
}

func TestFit(t *testing.T) {
	for _, kind := range kinds {
		for _, size := range numbers() {
			at := slices.IndexFunc(sizesOf(kind), func(s int) bool { return s >= size })
			want, e := 0, api.ErrArg
			if size >= 0 && at >= 0 {
				want, e = sizesOf(kind)[at], api.OK
			}
			if got, f := frame.Fit(kind, size); got != want || f != e {
				t.Errorf("Fit(%d, %d): %d, %d", kind, size, got, f)
			}
		}
	}
}

func TestExamples(t *testing.T) {
	if n, e := frame.Code(api.FD, 12); n != 9 || e != api.OK {
		t.Error(n, e)
	}
	if n, e := frame.Fit(api.FD, 33); n != 48 || e != api.OK {
		t.Error(n, e)
	}
	if n, e := frame.Code(api.XL, 2048); n != 2047 || e != api.OK {
		t.Error(n, e)
	}
}

func TestNoSuchKind(t *testing.T) {
	for name, call := range map[string]func(int, int) (int, api.Errno){"Code": frame.Code, "Size": frame.Size, "Fit": frame.Fit} {
		for _, kind := range noKinds {
			for _, n := range numbers() {
				if got, e := call(kind, n); got != 0 || e != api.ErrArg {
					t.Errorf("%s(%d, %d): %d, %d", name, kind, n, got, e)
				}
			}
		}
	}
}

// P5.3

func TestACodesSizeHasThatCode(t *testing.T) {
	for _, kind := range kinds {
		codes, last := 0, -1
		for code := range 2200 {
			size, e := frame.Size(kind, code)
			if e != api.OK {
				continue
			}
			codes++
			if back, f := frame.Code(kind, size); back != code || f != api.OK {
				t.Errorf("kind %d, code %d: %d, %d", kind, code, back, f)
			}
			if size <= last {
				t.Errorf("kind %d: size %d behind %d", kind, size, last)
			}
			last = size
		}
		if codes != len(sizesOf(kind)) {
			t.Errorf("kind %d: %d codes", kind, codes)
		}
	}
}

func TestWhatFitsIsThatSizeJustIfItMayBe(t *testing.T) {
	for _, kind := range append(noKinds, kinds...) {
		for _, size := range numbers() {
			n, e := frame.Fit(kind, size)
			_, f := frame.Code(kind, size)
			if (n == size && e == api.OK) != (f == api.OK) {
				t.Errorf("kind %d, size %d: fits %d, %d; code %d", kind, size, n, e, f)
			}
			if e != api.OK {
				continue
			}
			if _, f := frame.Code(kind, n); f != api.OK || n < size {
				t.Errorf("kind %d, size %d: fits %d, which may not be", kind, size, n)
			}
		}
	}
}

// DOC.md's rules of lists, and of what answers hang on

func TestWhatIsHandedInStays(t *testing.T) {
	for _, kind := range append(noKinds, kinds...) {
		room := data(80)
		before := bytes.Clone(room)
		f := full()
		f.Kind = kind
		for n := range 70 {
			f.Data = room[:n]
			frame.Check(f)
			frame.Same(f, api.Frame{Kind: kind, Data: room[:n]})
			frame.Copy(f)
			frame.Check(api.Frame{Kind: kind, Data: room[:n]})
		}
		if !bytes.Equal(room, before) {
			t.Errorf("kind %d: %v", kind, room)
		}
	}
}
