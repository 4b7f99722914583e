package filter_test

import (
	"bytes"
	"math/rand"
	"reflect"
	"slices"
	"testing"

	"omnibus/api"
	"omnibus/filter"
	"omnibus/frame"
)

// What is tried with must be what it says that it is.
func TestWhatIsTried(t *testing.T) {
	for i, f := range frames() {
		if frame.Check(f) != api.OK {
			t.Error("a frame that may not be:", i)
		}
	}
	for i, f := range wrong() {
		if frame.Check(f) != api.ErrArg {
			t.Errorf("frame %d may be: %+v", i, f)
		}
	}
}

// P15.1

func TestCheckOfKinds(t *testing.T) {
	kinds := noKinds
	for n := -300; n <= 300; n++ {
		kinds = append(kinds, n)
	}
	full := exact(api.Frame{ID: ones, SDT: 255, VCID: 255, AF: ones})
	for _, r := range []filter.Rule{{}, {In: true}, full} {
		for _, r.Kinds = range kinds {
			checkIs(t, filter.Bank{Rules: []filter.Rule{r}})
			checkIs(t, filter.Bank{Rules: []filter.Rule{r}, Else: true})
		}
	}
}

func TestCheckOfHowMany(t *testing.T) {
	for _, n := range []int{0, 1, 2, 31, 32, 33, 34, 63, 64, 65, 256, 1 << 16, 1<<16 + 5} {
		rules := make([]filter.Rule, n)
		for i := range rules {
			rules[i].Kinds = 1 + i%7
		}
		want := api.OK
		if n > 32 {
			want = api.ErrArg
		}
		for _, b := range []filter.Bank{{Rules: rules}, {Rules: rules, Else: true}} {
			if e := filter.Check(b); e != want {
				t.Errorf("%d rules: %d", n, e)
			}
		}
	}
}

// One rule that may not be is enough, wherever it stands.
func TestCheckOfEachPlace(t *testing.T) {
	for n := range 34 {
		for at := range n {
			for _, kinds := range noKinds {
				rules := slices.Repeat([]filter.Rule{{Kinds: 7}}, n)
				rules[at].Kinds = kinds
				if e := filter.Check(filter.Bank{Rules: rules}); e != api.ErrArg {
					t.Errorf("Kinds %d at %d of %d: %d", kinds, at, n, e)
				}
			}
		}
	}
}

func TestFitsOfKinds(t *testing.T) {
	for _, f := range frames() {
		for n := -40; n < 40; n++ {
			fitsIs(t, filter.Rule{Kinds: n}, f)
			fitsIs(t, filter.Rule{Kinds: n, ID: f.ID, IDMask: ones, In: true}, f)
			fitsIs(t, filter.Rule{Kinds: n, ID: ^f.ID, IDMask: 1}, f)
		}
		for _, n := range noKinds {
			if filter.Fits(filter.Rule{Kinds: n}, f) {
				t.Errorf("a rule of Kinds %d fits %+v", n, f)
			}
		}
	}
}

// The chapter's example.
func TestExample(t *testing.T) {
	r := filter.Rule{Kinds: 7, ID: 16, IDMask: 2032}
	for id := range uint32(2048) {
		for _, f := range []api.Frame{{Kind: api.Classic, ID: id}, {Kind: api.Classic, ID: id, Ext: true}, {Kind: api.FD, ID: id}, {Kind: api.XL, ID: id, Data: []byte{1}}} {
			if filter.Fits(r, f) != (id >= 16 && id <= 31) {
				t.Errorf("%+v", f)
			}
		}
	}
}

// fieldOf is a number of a rule by its name.
func fieldOf(r *filter.Rule, name string) reflect.Value {
	return reflect.ValueOf(r).Elem().FieldByName(name)
}

// A bit that differs matters just if the mask has it.
func TestFitsOfEachBit(t *testing.T) {
	for _, f := range frames() {
		if !filter.Fits(exact(f), f) {
			t.Errorf("its own rule isn't of %+v", f)
		}
		for name, size := range map[string]int{"ID": 32, "SDT": 8, "VCID": 8, "AF": 32} {
			for bit := range size {
				other := exact(f)
				field, mask := fieldOf(&other, name), fieldOf(&other, name+"Mask")
				field.SetUint(field.Uint() ^ 1<<bit)
				if filter.Fits(other, f) {
					t.Errorf("another bit %d of %s: of %+v", bit, name, f)
				}
				mask.SetUint(1 << bit)
				if filter.Fits(other, f) {
					t.Errorf("another bit %d of %s, that one masked alone: of %+v", bit, name, f)
				}
				mask.SetUint(1<<size - 1 - 1<<bit)
				if !filter.Fits(other, f) {
					t.Errorf("another bit %d of %s that isn't masked: not of %+v", bit, name, f)
				}
			}
		}
	}
}

// All of three bits of a rule, of its mask, and of a frame, at the ends of each field.
func TestFitsOfAFewBits(t *testing.T) {
	for n := range 1 << 9 {
		rule, mask, is := uint32(n&7), uint32(n>>3&7), uint32(n>>6)
		x := api.Frame{Kind: api.XL, Data: []byte{1}}
		f, g, h := x, x, x
		f.SDT, g.VCID, h.AF = uint8(is), uint8(is), is
		fitsIs(t, filter.Rule{Kinds: 4, SDT: uint8(rule), SDTMask: uint8(mask)}, f)
		fitsIs(t, filter.Rule{Kinds: 4, VCID: uint8(rule), VCIDMask: uint8(mask)}, g)
		fitsIs(t, filter.Rule{Kinds: 4, AF: rule, AFMask: mask}, h)
		f.SDT, g.VCID, h.AF = uint8(is<<5), uint8(is<<5), is<<29
		fitsIs(t, filter.Rule{Kinds: 4, SDT: uint8(rule << 5), SDTMask: uint8(mask << 5)}, f)
		fitsIs(t, filter.Rule{Kinds: 4, VCID: uint8(rule << 5), VCIDMask: uint8(mask << 5)}, g)
		fitsIs(t, filter.Rule{Kinds: 4, AF: rule << 29, AFMask: mask << 29}, h)
		for _, k := range []api.Frame{{Kind: api.Classic, ID: is}, {Kind: api.FD, ID: is << 8}, {Kind: api.Classic, Ext: true, ID: is << 26}} {
			for _, by := range []int{0, 8, 26, 29} {
				fitsIs(t, filter.Rule{Kinds: 3, ID: rule << by, IDMask: mask << by}, k)
			}
		}
	}
}

// What no rule has makes no difference.
func TestFitsOfOtherFields(t *testing.T) {
	r := filter.Rule{Kinds: 7, ID: 5, IDMask: ones, SDTMask: 255, VCIDMask: 255, AFMask: ones}
	one := []byte{1}
	for _, r.In = range []bool{false, true} {
		for i, f := range []api.Frame{
			{Kind: api.Classic, ID: 5}, {Kind: api.Classic, ID: 5, RTR: true}, {Kind: api.Classic, ID: 5, Ext: true, RTR: true}, {Kind: api.Classic, ID: 5, Data: one},
			{Kind: api.FD, ID: 5}, {Kind: api.FD, ID: 5, BRS: true}, {Kind: api.FD, ID: 5, ESI: true, Data: make([]byte, 64)},
			{Kind: api.XL, ID: 5, Data: one}, {Kind: api.XL, ID: 5, SEC: true, Data: make([]byte, api.MaxData)},
		} {
			if !filter.Fits(r, f) {
				t.Errorf("frame %d with In %t", i, r.In)
			}
		}
	}
}

// Fields that a frame's kind hasn't are zero, and masks ask for them all the same.
func TestFitsOfFieldsThatAKindHasNot(t *testing.T) {
	for _, f := range []api.Frame{{Kind: api.Classic}, {Kind: api.FD}} {
		for _, r := range []filter.Rule{{SDT: 3, SDTMask: 255}, {SDT: 3, SDTMask: 252}, {VCID: 1, VCIDMask: 1}, {VCID: 1, VCIDMask: 2}, {AF: 1 << 31, AFMask: ones}, {AF: 1 << 31, AFMask: ones >> 1}, {SDTMask: 255, VCIDMask: 255, AFMask: ones}} {
			r.Kinds = 7
			fitsIs(t, r, f)
		}
	}
}

// A frame that may not be is none's, not even that of a rule that asks for nothing.
func TestFitsRefuses(t *testing.T) {
	for i, f := range wrong() {
		for kinds := range 9 {
			own := exact(f)
			own.Kinds = kinds
			if filter.Fits(filter.Rule{Kinds: kinds, In: true}, f) || filter.Fits(own, f) {
				t.Errorf("frame %d: a rule of Kinds %d", i, kinds)
			}
		}
		for _, kinds := range noKinds {
			if filter.Fits(filter.Rule{Kinds: kinds}, f) {
				t.Errorf("frame %d: a rule of Kinds %d", i, kinds)
			}
		}
	}
}

func TestFitsMixed(t *testing.T) {
	r := rand.New(rand.NewSource(15))
	l := append(frames(), wrong()...)
	for range 30000 {
		fitsIs(t, some(r), pick(r, l))
		fitsIs(t, filter.Rule{Kinds: r.Intn(12) - 2, ID: uint32(r.Intn(8)), IDMask: r.Uint32() & r.Uint32(), AFMask: uint32(r.Intn(2))}, pick(r, l))
	}
}

// P15.2

// Of each number of rules each one is the first that is of a frame, with none behind it and with all.
func TestFindEachPlace(t *testing.T) {
	for n := range 33 {
		for at := range n + 1 {
			for _, behind := range []uint32{6, 5} {
				for x := range 4 {
					b := filter.Bank{Else: x&1 == 1}
					for i := range n {
						r := ofID(uint32(100+i), x&2 == 0)
						if i >= at {
							r = ofID(behind, x&2 == 0)
						}
						if i == at {
							r = ofID(5, x&2 == 2)
						}
						b.Rules = append(b.Rules, r)
					}
					findIs(t, b, api.Frame{Kind: api.FD, ID: 5})
				}
			}
		}
	}
}

func TestOfNoRule(t *testing.T) {
	rules := []filter.Rule{{Kinds: 6}, {Kinds: 1, ID: 1, IDMask: 1}, {Kinds: 7, SDT: 1, SDTMask: 1}}
	f := api.Frame{Kind: api.Classic, ID: 2}
	for n := range len(rules) + 1 {
		for _, r := range []bool{false, true} {
			for i := range rules {
				rules[i].In = r
			}
			for _, other := range []bool{false, true} {
				b := filter.Bank{Rules: rules[:n], Else: other}
				if at, e := filter.Find(b, f); at != 0 || e != api.ErrNone {
					t.Errorf("%+v: Find: %d, %d", b, at, e)
				}
				if is, e := filter.In(b, f); is != other || e != api.OK {
					t.Errorf("%+v: In: %t, %d", b, is, e)
				}
			}
		}
	}
}

func TestInIsWhatTheFirstRuleSays(t *testing.T) {
	for x := range 8 {
		first, second, other := x&1 == 1, x&2 == 2, x&4 == 4
		b := filter.Bank{Rules: []filter.Rule{{Kinds: 2, In: first}, {Kinds: 3, In: second}}, Else: other}
		for kind, want := range map[int]bool{api.Classic: second, api.FD: first, api.XL: other} {
			if is, e := filter.In(b, api.Frame{Kind: kind, Data: []byte{1}}); is != want || e != api.OK {
				t.Errorf("%+v, kind %d: %t, %d", b, kind, is, e)
			}
		}
	}
}

// refused says that Find and In refuse, with nothing beside.
func refused(t *testing.T, b filter.Bank, f api.Frame) {
	t.Helper()
	if at, e := filter.Find(b, f); at != 0 || e != api.ErrArg {
		t.Errorf("Find(%+v, %+v): %d, %d", b, f, at, e)
	}
	if is, e := filter.In(b, f); is || e != api.ErrArg {
		t.Errorf("In(%+v, %+v): %t, %d", b, f, is, e)
	}
}

func TestFindRefusesFrames(t *testing.T) {
	all := filter.Rule{Kinds: 7, In: true}
	for _, f := range wrong() {
		own := exact(f)
		own.In = true
		for _, rules := range [][]filter.Rule{nil, {}, {all}, {own}, {{Kinds: 1}, own, all}, slices.Repeat([]filter.Rule{all}, 32)} {
			refused(t, filter.Bank{Rules: rules}, f)
			refused(t, filter.Bank{Rules: rules, Else: true}, f)
		}
	}
}

// wrongBanks are banks that may not be, though a rule that is of all frames stands first in most of them.
func wrongBanks() []filter.Bank {
	all := filter.Rule{Kinds: 7, In: true}
	var l []filter.Bank
	for _, n := range []int{33, 34, 64, 1000} {
		l = append(l, filter.Bank{Rules: slices.Repeat([]filter.Rule{all}, n)})
	}
	for _, kinds := range noKinds {
		bad := filter.Rule{Kinds: kinds, In: true}
		for _, rules := range [][]filter.Rule{{bad}, {all, bad}, {bad, all}, append(slices.Repeat([]filter.Rule{all}, 31), bad)} {
			l = append(l, filter.Bank{Rules: rules}, filter.Bank{Rules: rules, Else: true})
		}
	}
	return l
}

func TestFindRefusesBanks(t *testing.T) {
	for _, b := range wrongBanks() {
		for _, f := range append(frames(), wrong()[:3]...) {
			refused(t, b, f)
		}
	}
}

func TestFindOfAllShortBanks(t *testing.T) {
	one := []byte{1}
	l := []api.Frame{{Kind: api.Classic, ID: 5}, {Kind: api.FD, ID: 4}, {Kind: api.XL, ID: 5, Data: one}, {Kind: api.XL, AF: 1, Data: one}}
	shortBanks(append(fewRules(), filter.Rule{}), 3, func(b filter.Bank) {
		checkIs(t, b)
		for _, f := range l {
			findIs(t, b, f)
		}
	})
}

// mixed is a bank of any rules that may be.
func mixed(r *rand.Rand, most int) filter.Bank {
	b := filter.Bank{Else: r.Intn(2) == 0}
	for range r.Intn(most + 1) {
		b.Rules = append(b.Rules, some(r))
	}
	return b
}

func TestFindMixed(t *testing.T) {
	r := rand.New(rand.NewSource(2))
	l := append(frames(), wrong()...)
	for range 3000 {
		b := mixed(r, 33)
		for range 5 {
			findIs(t, b, pick(r, l))
		}
	}
}

// P15.3

func TestLeastOfAllShortBanks(t *testing.T) {
	shortBanks(append(fewRules(), filter.Rule{}), 4, func(b filter.Bank) {
		leastIs(t, b)
	})
}

func TestLeast(t *testing.T) {
	a, b, c := ofID(1, true), ofID(2, false), ofID(3, true)
	x, y := ofID(1, false), ofID(2, true)
	for i, c := range []struct {
		rules []filter.Rule
		other bool
		want  []filter.Rule
	}{
		{nil, false, nil},
		{[]filter.Rule{a}, true, nil},
		{[]filter.Rule{a}, false, []filter.Rule{a}},
		{[]filter.Rule{a, a}, false, []filter.Rule{a}},
		{[]filter.Rule{a, x}, false, []filter.Rule{a}},
		{[]filter.Rule{x, a}, false, nil},
		{[]filter.Rule{x, a}, true, []filter.Rule{x}},
		{[]filter.Rule{a, b, c}, false, []filter.Rule{a, b, c}},
		{[]filter.Rule{a, b, c}, true, []filter.Rule{a, b}},
		{[]filter.Rule{a, c, b}, false, []filter.Rule{a, c}},
		{[]filter.Rule{a, b, a}, false, []filter.Rule{a}},
		{[]filter.Rule{x, c, a}, false, []filter.Rule{x, c}},
		{[]filter.Rule{a, b, c, x, y}, false, []filter.Rule{a, b, c}},
		{[]filter.Rule{y, b, x, a}, false, []filter.Rule{y}},
	} {
		is, e := filter.Least(filter.Bank{Rules: c.rules, Else: c.other})
		if !sameBank(is, filter.Bank{Rules: c.want, Else: c.other}) || e != api.OK {
			t.Errorf("%d: %+v, %d", i, is, e)
		}
	}
}

// Rules that differ in any field but In are two, be it in a bit that no mask has.
func TestLeastKeepsOtherRules(t *testing.T) {
	for _, first := range []filter.Rule{{Kinds: 7, In: true}, {Kinds: 5, In: true}, {Kinds: 7, ID: 3, IDMask: 1, SDT: 3, SDTMask: 1, VCID: 3, VCIDMask: 1, AF: 3, AFMask: 1, In: true}} {
		shape := reflect.TypeFor[filter.Rule]()
		for i := range shape.NumField() {
			name := shape.Field(i).Name
			for bit := range 32 {
				second := first
				switch field := fieldOf(&second, name); field.Kind() {
				case reflect.Int:
					field.SetInt(1 + int64(bit%7))
				case reflect.Bool:
					field.SetBool(!field.Bool())
				default:
					field.SetUint(field.Uint() ^ 1<<(bit%field.Type().Bits()))
				}
				b := filter.Bank{Rules: []filter.Rule{first, second}}
				want := b.Rules
				if name == "In" || second == first {
					want = b.Rules[:1]
				}
				if is, e := filter.Least(b); !slices.Equal(is.Rules, want) || is.Else || e != api.OK {
					t.Errorf("another %s: %+v, %d", name, is, e)
				}
			}
		}
	}
}

func TestLeastOfMany(t *testing.T) {
	for n := range 33 {
		for x := range 4 {
			b, same := filter.Bank{Else: x&1 == 1}, filter.Bank{Else: x&1 == 1}
			for i := range n {
				b.Rules = append(b.Rules, ofID(uint32(i), x&2 == 2))
				same.Rules = append(same.Rules, ofID(5, (x&2 == 2) == (i == 0)))
			}
			leastIs(t, b)
			leastIs(t, same)
		}
	}
}

func TestLeastMixed(t *testing.T) {
	r := rand.New(rand.NewSource(3))
	few := fewRules()
	for range 3000 {
		leastIs(t, mixed(r, 33))
		b := filter.Bank{Else: r.Intn(2) == 0}
		for range r.Intn(34) {
			b.Rules = append(b.Rules, pick(r, few))
			if r.Intn(2) == 0 {
				b.Rules = append(b.Rules, ofID(uint32(r.Intn(6)), r.Intn(2) == 0))
			}
		}
		leastIs(t, b)
	}
}

func TestLeastRefuses(t *testing.T) {
	for _, b := range wrongBanks() {
		if is, e := filter.Least(b); len(is.Rules) != 0 || is.Else || e != api.ErrArg {
			t.Errorf("Least(%+v): %+v, %d", b, is, e)
		}
	}
}

// P15.4

// alikeIn says that two banks let in the same frames.
func alikeIn(t *testing.T, a, b filter.Bank, l []api.Frame) {
	t.Helper()
	for _, f := range l {
		is, e := filter.In(a, f)
		if also, d := filter.In(b, f); is != also || e != d {
			t.Errorf("%+v: %+v lets it in: %t, %d; %+v: %t, %d", f, a, is, e, b, also, d)
		}
	}
}

func TestLeastLetsInTheSame(t *testing.T) {
	r := rand.New(rand.NewSource(4))
	l := append(frames(), api.Frame{Kind: api.FD, ID: 5}, api.Frame{Kind: api.Classic, ID: 5}, api.Frame{Kind: api.XL, AF: 1, Data: []byte{1}}, api.Frame{})
	try := func(b filter.Bank) {
		is := leastIs(t, b)
		alikeIn(t, b, is, l)
		if again := leastIs(t, is); !sameBank(again, is) || len(is.Rules) > len(b.Rules) {
			t.Errorf("Least of Least of %+v: %+v, once %+v", b, again, is)
		}
	}
	shortBanks(fewRules(), 3, try)
	for range 2000 {
		try(mixed(r, 32))
	}
}

// A rule that is of all frames is the last that is asked; so Least may keep those behind it, and does.
func TestBehindARuleOfAll(t *testing.T) {
	r := rand.New(rand.NewSource(5))
	l := append(frames(), wrong()[0])
	for range 1000 {
		head := append(mixed(r, 15).Rules, filter.Rule{Kinds: 7, ID: r.Uint32(), AF: r.Uint32(), SDT: 9, VCID: 9, In: r.Intn(2) == 0})
		short := filter.Bank{Rules: head, Else: r.Intn(2) == 0}
		long := filter.Bank{Rules: slices.Concat(head, mixed(r, 16).Rules), Else: r.Intn(2) == 0}
		alikeIn(t, short, long, l)
		for _, f := range l {
			at, e := filter.Find(short, f)
			if also, d := filter.Find(long, f); at != also || e != d {
				t.Errorf("%+v: at %d, %d; with more behind at %d, %d", f, at, e, also, d)
			}
		}
	}
	b := filter.Bank{Rules: []filter.Rule{{Kinds: 7}, ofID(5, true)}}
	if is, e := filter.Least(b); !sameBank(is, b) || e != api.OK {
		t.Errorf("Least(%+v): %+v, %d", b, is, e)
	}
}

// DOC.md's rules of lists, and of what answers hang on

func TestNilAndEmptyAreOne(t *testing.T) {
	f := api.Frame{Kind: api.Classic}
	for _, rules := range [][]filter.Rule{nil, {}, make([]filter.Rule, 0, 5)} {
		for _, other := range []bool{false, true} {
			b := filter.Bank{Rules: rules, Else: other}
			checkIs(t, b)
			leastIs(t, b)
			findIs(t, b, f)
			f.Data = []byte{}
			findIs(t, b, f)
		}
	}
	if !filter.Fits(filter.Rule{Kinds: 1}, api.Frame{Kind: api.Classic, RTR: true, Data: []byte{}}) {
		t.Error("empty Data of a frame with RTR")
	}
}

// What is handed in stays as it is, its spare room too.
func TestWhatIsHandedInStays(t *testing.T) {
	r := rand.New(rand.NewSource(6))
	for n := range 33 {
		room := make([]filter.Rule, 40)
		for i := range room {
			room[i] = pick(r, fewRules())
		}
		data := []byte{1, 2, 3, 4, 5, 6, 7, 8}
		rules, bytesThen := slices.Clone(room), bytes.Clone(data)
		for _, other := range []bool{false, true} {
			b := filter.Bank{Rules: room[:n], Else: other}
			f := api.Frame{Kind: api.XL, ID: 5, Data: data[:1+n%5]}
			filter.Check(b)
			filter.Fits(room[n], f)
			filter.Find(b, f)
			filter.In(b, f)
			filter.Least(b)
		}
		if !slices.Equal(room, rules) || !bytes.Equal(data, bytesThen) {
			t.Errorf("%d rules: %+v, %v", n, room, data)
		}
	}
}

// An answer shares no memory with what was handed in, nor with another answer.
func TestLeastIsNew(t *testing.T) {
	for n := range 33 {
		var room []filter.Rule
		for i := range 40 {
			room = append(room, ofID(uint32(i), i < n-n%3))
		}
		b := filter.Bank{Rules: room[:n]}
		before := slices.Clone(room)
		first, second := leastIs(t, b), leastIs(t, b)
		l := first.Rules[:cap(first.Rules)]
		for i := range l {
			l[i] = filter.Rule{Kinds: -1}
		}
		if !slices.Equal(room, before) {
			t.Fatalf("%d rules: the answer shares memory with the argument", n)
		}
		want, _ := least(b)
		if !sameBank(second, want) {
			t.Fatalf("%d rules: two answers share memory", n)
		}
		for i := range room {
			room[i] = filter.Rule{Kinds: -2}
		}
		if !sameBank(second, want) {
			t.Fatalf("%d rules: the answer changes with the argument", n)
		}
	}
}

// One question is answered the same each time.
func TestTheSameEachTime(t *testing.T) {
	script := func() []any {
		r := rand.New(rand.NewSource(7))
		var l []any
		for range 300 {
			b, f := mixed(r, 33), pick(r, append(frames(), wrong()...))
			at, e := filter.Find(b, f)
			is, d := filter.In(b, f)
			short, c := filter.Least(b)
			l = append(l, at, e, is, d, c, len(short.Rules), short.Else, filter.Check(b), filter.Fits(some(r), f))
		}
		return l
	}
	if want := script(); !slices.Equal(script(), want) || !slices.Equal(script(), want) {
		t.Error("one question is answered differently")
	}
}
