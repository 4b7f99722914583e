package filter_test

import (
	"math"
	"math/rand"
	"slices"
	"testing"

	"omnibus/api"
	"omnibus/filter"
	"omnibus/frame"
)

// Here the chapter's words are told a second time.

// kindsOf are the numbers that have a frame's kind.
func kindsOf(kind int) []int {
	switch kind {
	case api.Classic:
		return []int{1, 3, 5, 7}
	case api.FD:
		return []int{2, 3, 6, 7}
	case api.XL:
		return []int{4, 5, 6, 7}
	}
	return nil
}

// isOf says whether a rule is of a frame, bit by bit.
func isOf(r filter.Rule, f api.Frame) bool {
	return frame.Check(f) == api.OK && slices.Contains(kindsOf(f.Kind), r.Kinds) &&
		agree(f.ID, r.ID, r.IDMask) &&
		agree(uint32(f.SDT), uint32(r.SDT), uint32(r.SDTMask)) &&
		agree(uint32(f.VCID), uint32(r.VCID), uint32(r.VCIDMask)) &&
		agree(f.AF, r.AF, r.AFMask)
}

func agree(a, b, mask uint32) bool {
	for i := range 32 {
		if mask>>i%2 == 1 && a>>i%2 != b>>i%2 {
			return false
		}
	}
	return true
}

func bankMayBe(b filter.Bank) bool {
	for _, r := range b.Rules {
		if !slices.Contains([]int{1, 2, 3, 4, 5, 6, 7}, r.Kinds) {
			return false
		}
	}
	return len(b.Rules) <= 32
}

func check(b filter.Bank) api.Errno {
	if bankMayBe(b) {
		return api.OK
	}
	return api.ErrArg
}

// find asks the rules from the last to the first.
func find(b filter.Bank, f api.Frame) (int, api.Errno) {
	if !bankMayBe(b) || frame.Check(f) != api.OK {
		return 0, api.ErrArg
	}
	first, e := 0, api.ErrNone
	for i := len(b.Rules) - 1; i >= 0; i-- {
		if isOf(b.Rules[i], f) {
			first, e = i, api.OK
		}
	}
	return first, e
}

func in(b filter.Bank, f api.Frame) (bool, api.Errno) {
	at, e := find(b, f)
	switch {
	case e == api.ErrArg:
		return false, e
	case e == api.ErrNone:
		return b.Else, api.OK
	}
	return b.Rules[at].In, api.OK
}

// allButIn are a rule's fields.
func allButIn(r filter.Rule) [9]int {
	return [9]int{r.Kinds, int(r.ID), int(r.IDMask), int(r.SDT), int(r.SDTMask), int(r.VCID), int(r.VCIDMask), int(r.AF), int(r.AFMask)}
}

func least(b filter.Bank) (filter.Bank, api.Errno) {
	if !bankMayBe(b) {
		return filter.Bank{}, api.ErrArg
	}
	var once []filter.Rule
	end := 0
	for i, r := range b.Rules {
		again := false
		for _, earlier := range b.Rules[:i] {
			again = again || allButIn(earlier) == allButIn(r)
		}
		if again {
			continue
		}
		once = append(once, r)
		if r.In != b.Else {
			end = len(once)
		}
	}
	return filter.Bank{Rules: once[:end], Else: b.Else}, api.OK
}

func sameBank(a, b filter.Bank) bool {
	return a.Else == b.Else && slices.Equal(a.Rules, b.Rules)
}

// Here the program is held against them.

func checkIs(t *testing.T, b filter.Bank) {
	t.Helper()
	if e, want := filter.Check(b), check(b); e != want {
		t.Errorf("Check(%+v): %d, wanted %d", b, e, want)
	}
}

func fitsIs(t *testing.T, r filter.Rule, f api.Frame) {
	t.Helper()
	if is, want := filter.Fits(r, f), isOf(r, f); is != want {
		t.Errorf("Fits(%+v, %+v): %t", r, f, is)
	}
}

func findIs(t *testing.T, b filter.Bank, f api.Frame) {
	t.Helper()
	at, e := filter.Find(b, f)
	if want, d := find(b, f); at != want || e != d {
		t.Errorf("Find(%+v, %+v): %d, %d, wanted %d, %d", b, f, at, e, want, d)
	}
	is, e := filter.In(b, f)
	if want, d := in(b, f); is != want || e != d {
		t.Errorf("In(%+v, %+v): %t, %d, wanted %t, %d", b, f, is, e, want, d)
	}
}

func leastIs(t *testing.T, b filter.Bank) filter.Bank {
	t.Helper()
	is, e := filter.Least(b)
	if want, d := least(b); !sameBank(is, want) || e != d {
		t.Errorf("Least(%+v): %+v, %d, wanted %+v, %d", b, is, e, want, d)
	}
	return is
}

// Here stand rules, banks and frames to try.

// ones are all 32 bits.
const ones = math.MaxUint32

// noKinds are numbers that no rule may have.
var noKinds = []int{0, -1, -2, -7, 8, 9, 15, 16, 127, 255, 256, 257, 1<<16 + 1, 1<<31 + 1, 1<<32 + 1, 1<<32 + 7, math.MaxInt32, math.MinInt32, math.MaxInt, math.MinInt, math.MinInt + 1}

// exact is the rule of all kinds that is of frames with just these fields.
func exact(f api.Frame) filter.Rule {
	return filter.Rule{Kinds: 7, ID: f.ID, IDMask: ones, SDT: f.SDT, SDTMask: 255, VCID: f.VCID, VCIDMask: 255, AF: f.AF, AFMask: ones}
}

// ofID is the rule of all kinds that is of one ID.
func ofID(id uint32, in bool) filter.Rule {
	return filter.Rule{Kinds: 7, ID: id, IDMask: ones, In: in}
}

// frames are some of all kinds that may be, with each bit of each field in one of them.
func frames() []api.Frame {
	one := []byte{1}
	return []api.Frame{
		{Kind: api.Classic},
		{Kind: api.Classic, ID: 2047, Data: make([]byte, 8)},
		{Kind: api.Classic, ID: 1365, RTR: true},
		{Kind: api.Classic, ID: 682, Ext: true},
		{Kind: api.Classic, ID: 1<<29 - 1, Ext: true, Data: one},
		{Kind: api.Classic, ID: 0x15555555, Ext: true, RTR: true},
		{Kind: api.FD},
		{Kind: api.FD, ID: 2047, BRS: true, Data: make([]byte, 64)},
		{Kind: api.FD, ID: 682, ESI: true, Data: one},
		{Kind: api.XL, Data: one},
		{Kind: api.XL, ID: 2047, SEC: true, SDT: 255, VCID: 255, AF: ones, Data: make([]byte, api.MaxData)},
		{Kind: api.XL, ID: 1365, SDT: 0x55, VCID: 0xaa, AF: 0x55555555, Data: one},
		{Kind: api.XL, ID: 5, SDT: 3, VCID: 7, AF: 0x12345678, Data: one},
	}
}

// wrong are frames that may not be.
func wrong() []api.Frame {
	l := []api.Frame{{}, {ID: 1}, {Kind: 4}, {Kind: 7, Data: []byte{1}}, {Kind: -1}, {Kind: -63}, {Kind: 65}, {Kind: 1<<32 + 1}, {Kind: math.MinInt}, {Kind: math.MaxInt}}
	spoil := []func(*api.Frame){
		func(f *api.Frame) { f.Kind = 0 },
		func(f *api.Frame) { f.ID |= 1 << 29 },
		func(f *api.Frame) { f.ID |= 1 << 31 },
		func(f *api.Frame) { f.BRS, f.SEC = true, true },
		func(f *api.Frame) { f.Ext, f.ESI, f.AF = true, true, f.AF|1 },
		func(f *api.Frame) { f.RTR, f.Data = true, []byte{1} },
		func(f *api.Frame) { f.Data = make([]byte, api.MaxData+1) },
		func(f *api.Frame) { f.Kind, f.Data = api.XL, nil },
	}
	for _, f := range frames() {
		for _, s := range spoil {
			g := f
			s(&g)
			l = append(l, g)
		}
	}
	return l
}

// some is any rule that may be, mostly of a few frames.
func some(r *rand.Rand) filter.Rule {
	masks := []uint32{0, 0, 0, 1, 2, 3, 255, ones}
	f := pick(r, frames())
	return filter.Rule{
		Kinds: 1 + r.Intn(7),
		ID:    f.ID ^ uint32(r.Intn(2)), IDMask: pick(r, masks),
		SDT: f.SDT, SDTMask: uint8(pick(r, masks)),
		VCID: f.VCID, VCIDMask: uint8(pick(r, masks)),
		AF: f.AF ^ uint32(r.Intn(2)), AFMask: pick(r, masks),
		In: r.Intn(2) == 0,
	}
}

func pick[T any](r *rand.Rand, l []T) T {
	return l[r.Intn(len(l))]
}

// shortBanks calls of all banks of up to so many of some rules, each with both Else.
func shortBanks(rules []filter.Rule, most int, each func(filter.Bank)) {
	var more func(l []filter.Rule)
	more = func(l []filter.Rule) {
		each(filter.Bank{Rules: l})
		each(filter.Bank{Rules: l, Else: true})
		if len(l) == most {
			return
		}
		for _, r := range rules {
			more(append(slices.Clone(l), r))
		}
	}
	more(nil)
}

// fewRules are rules that overlap, each with both In: of all, of one ID, of a kind, of no frame that is tried.
func fewRules() []filter.Rule {
	var l []filter.Rule
	for _, r := range []filter.Rule{{Kinds: 7}, {Kinds: 7, ID: 5, IDMask: 2047}, {Kinds: 4}, {Kinds: 2, AF: 1, AFMask: 1}} {
		l = append(l, r)
		r.In = true
		l = append(l, r)
	}
	return l
}
