package fault_test

import (
	"math"
	"math/rand"
	"slices"
	"testing"

	"omnibus/api"
	"omnibus/fault"
)

// events are those that there are.
var events = []int{fault.Sent, fault.Got, fault.SendError, fault.GetError, fault.Unheard, fault.Restart}

// noEvents are some that there aren't.
var noEvents = []int{0, -1, -2, -6, 7, 8, 255, 256, 257, 262, 1 << 32, 1<<32 + 1, 1<<32 + 6, math.MaxInt, math.MinInt, math.MinInt + 1}

// far are numbers that no counter reaches.
var far = []int{math.MinInt, math.MinInt + 1, -1 << 32, -256, 264, 511, 512, 1<<16 + 1, 1 << 32, 1<<32 + 5, math.MaxInt - 1, math.MaxInt}

// states are all that may be.
func states() []fault.State {
	var l []fault.State
	for tec := 0; tec <= 263; tec++ {
		for rec := 0; rec <= 255; rec++ {
			l = append(l, fault.State{TEC: tec, REC: rec, Off: tec >= 256})
		}
	}
	return l
}

// wrong are states that may not be.
func wrong() []fault.State {
	var l []fault.State
	for _, off := range []bool{false, true} {
		for _, n := range append([]int{-1}, far...) {
			l = append(l, fault.State{TEC: n, Off: off}, fault.State{REC: n, Off: off}, fault.State{TEC: 256, REC: n, Off: off}, fault.State{TEC: n, REC: n, Off: off})
		}
		l = append(l, fault.State{TEC: 255, REC: 256, Off: off}, fault.State{TEC: 263, REC: 256, Off: off})
	}
	for rec := range 256 {
		for tec := range 264 {
			l = append(l, fault.State{TEC: tec, REC: rec, Off: tec < 256})
		}
	}
	return l
}

// told is the state behind an event, as the chapter tells it.
func told(s fault.State, event int) fault.State {
	active := s.TEC < 128 && s.REC < 128
	switch {
	case s.Off && event == fault.Restart:
		s.TEC, s.REC, s.Off = 0, 0, false
	case s.Off:
	case event == fault.Sent && s.TEC > 0:
		s.TEC--
	case event == fault.Got && s.REC >= 128:
		s.REC = 120
	case event == fault.Got && s.REC >= 1:
		s.REC--
	case event == fault.SendError, event == fault.Unheard && active:
		s.TEC += 8
		if s.TEC >= 256 {
			s.Off = true
		}
	case event == fault.GetError && s.REC < 255:
		s.REC++
	}
	return s
}

// mode is how a state is, as the chapter tells it.
func mode(s fault.State) int {
	if s.Off {
		return 2
	}
	if s.TEC >= 128 || s.REC >= 128 {
		return 1
	}
	return 0
}

func next(t *testing.T, s fault.State, event int) fault.State {
	t.Helper()
	is, e := fault.Next(s, event)
	if e != api.OK {
		t.Fatalf("Next(%v, %d): %d", s, event, e)
	}
	return is
}

func afterIs(t *testing.T, s fault.State, l []int, want fault.State) {
	t.Helper()
	if is, e := fault.After(s, l); is != want || e != api.OK {
		t.Errorf("%d events behind %v: %v, %d, wanted %v", len(l), s, is, e, want)
	}
}

// P11.1

func TestCheck(t *testing.T) {
	for _, s := range states() {
		if e := fault.Check(s); e != api.OK {
			t.Errorf("%v: %d", s, e)
		}
	}
	for _, s := range wrong() {
		if e := fault.Check(s); e != api.ErrArg {
			t.Errorf("%v: %d", s, e)
		}
	}
	for tec := -300; tec <= 600; tec++ {
		for rec := -300; rec <= 600; rec++ {
			for _, off := range []bool{false, true} {
				want := api.ErrArg
				if tec >= 0 && tec < 264 && rec >= 0 && rec < 256 && off == (tec >= 256) {
					want = api.OK
				}
				if s := (fault.State{TEC: tec, REC: rec, Off: off}); fault.Check(s) != want {
					t.Errorf("%v: %d", s, fault.Check(s))
				}
			}
		}
	}
}

func TestNumbersOfModesAndEvents(t *testing.T) {
	if l := []int{fault.Active, fault.Passive, fault.Off}; !slices.Equal(l, []int{0, 1, 2}) {
		t.Error(l)
	}
	if !slices.Equal(events, []int{1, 2, 3, 4, 5, 6}) {
		t.Error(events)
	}
}

func TestMode(t *testing.T) {
	for _, x := range []struct {
		s    fault.State
		want int
	}{
		{fault.State{}, fault.Active},
		{fault.State{TEC: 127}, fault.Active},
		{fault.State{REC: 127}, fault.Active},
		{fault.State{TEC: 127, REC: 127}, fault.Active},
		{fault.State{TEC: 128}, fault.Passive},
		{fault.State{REC: 128}, fault.Passive},
		{fault.State{TEC: 255}, fault.Passive},
		{fault.State{REC: 255}, fault.Passive},
		{fault.State{TEC: 255, REC: 255}, fault.Passive},
		{fault.State{TEC: 256, Off: true}, fault.Off},
		{fault.State{TEC: 263, REC: 255, Off: true}, fault.Off},
	} {
		if m, e := fault.Mode(x.s); m != x.want || e != api.OK {
			t.Errorf("%v: %d, %d, wanted %d", x.s, m, e, x.want)
		}
	}
	for _, s := range states() {
		if m, e := fault.Mode(s); m != mode(s) || e != api.OK {
			t.Errorf("%v: %d, %d, wanted %d", s, m, e, mode(s))
		}
	}
}

// Each event at the edges that the chapter names.
func TestNextAtTheEdges(t *testing.T) {
	for _, x := range []struct {
		s     fault.State
		event int
		want  fault.State
	}{
		{fault.State{}, fault.Sent, fault.State{}},
		{fault.State{REC: 7}, fault.Sent, fault.State{REC: 7}},
		{fault.State{TEC: 1, REC: 7}, fault.Sent, fault.State{REC: 7}},
		{fault.State{TEC: 2}, fault.Sent, fault.State{TEC: 1}},
		{fault.State{TEC: 128}, fault.Sent, fault.State{TEC: 127}},
		{fault.State{TEC: 255, REC: 255}, fault.Sent, fault.State{TEC: 254, REC: 255}},
		{fault.State{}, fault.Got, fault.State{}},
		{fault.State{TEC: 7}, fault.Got, fault.State{TEC: 7}},
		{fault.State{TEC: 7, REC: 1}, fault.Got, fault.State{TEC: 7}},
		{fault.State{REC: 120}, fault.Got, fault.State{REC: 119}},
		{fault.State{REC: 121}, fault.Got, fault.State{REC: 120}},
		{fault.State{REC: 127}, fault.Got, fault.State{REC: 126}},
		{fault.State{REC: 128}, fault.Got, fault.State{REC: 120}},
		{fault.State{TEC: 255, REC: 255}, fault.Got, fault.State{TEC: 255, REC: 120}},
		{fault.State{}, fault.SendError, fault.State{TEC: 8}},
		{fault.State{TEC: 120, REC: 7}, fault.SendError, fault.State{TEC: 128, REC: 7}},
		{fault.State{TEC: 247}, fault.SendError, fault.State{TEC: 255}},
		{fault.State{TEC: 248, REC: 7}, fault.SendError, fault.State{TEC: 256, REC: 7, Off: true}},
		{fault.State{TEC: 255}, fault.SendError, fault.State{TEC: 263, Off: true}},
		{fault.State{}, fault.GetError, fault.State{REC: 1}},
		{fault.State{TEC: 7, REC: 127}, fault.GetError, fault.State{TEC: 7, REC: 128}},
		{fault.State{REC: 254}, fault.GetError, fault.State{REC: 255}},
		{fault.State{REC: 255}, fault.GetError, fault.State{REC: 255}},
		{fault.State{}, fault.Unheard, fault.State{TEC: 8}},
		{fault.State{TEC: 127, REC: 127}, fault.Unheard, fault.State{TEC: 135, REC: 127}},
		{fault.State{TEC: 128}, fault.Unheard, fault.State{TEC: 128}},
		{fault.State{REC: 128}, fault.Unheard, fault.State{REC: 128}},
		{fault.State{TEC: 255}, fault.Unheard, fault.State{TEC: 255}},
		{fault.State{}, fault.Restart, fault.State{}},
		{fault.State{TEC: 7, REC: 8}, fault.Restart, fault.State{TEC: 7, REC: 8}},
		{fault.State{TEC: 255, REC: 255}, fault.Restart, fault.State{TEC: 255, REC: 255}},
		{fault.State{TEC: 256, Off: true}, fault.Restart, fault.State{}},
		{fault.State{TEC: 263, REC: 255, Off: true}, fault.Restart, fault.State{}},
	} {
		if is := next(t, x.s, x.event); is != x.want {
			t.Errorf("Next(%v, %d): %v, wanted %v", x.s, x.event, is, x.want)
		}
	}
}

func TestNextOfAllStates(t *testing.T) {
	for _, s := range states() {
		for _, event := range events {
			if is, want := next(t, s, event), told(s, event); is != want {
				t.Errorf("Next(%v, %d): %v, wanted %v", s, event, is, want)
			}
		}
	}
}

func TestOffStaysOff(t *testing.T) {
	for tec := 256; tec <= 263; tec++ {
		for rec := range 256 {
			s := fault.State{TEC: tec, REC: rec, Off: true}
			for _, event := range []int{fault.Sent, fault.Got, fault.SendError, fault.GetError, fault.Unheard} {
				if is := next(t, s, event); is != s {
					t.Errorf("Next(%v, %d): %v", s, event, is)
				}
			}
			if is := next(t, s, fault.Restart); is != (fault.State{}) {
				t.Errorf("%v restarted: %v", s, is)
			}
		}
	}
}

func TestStatesThatMayNotBeAreRefused(t *testing.T) {
	for _, s := range wrong() {
		if m, e := fault.Mode(s); m != 0 || e != api.ErrArg {
			t.Errorf("Mode(%v): %d, %d", s, m, e)
		}
		for _, event := range append([]int{0, 7}, events...) {
			if is, e := fault.Next(s, event); is != (fault.State{}) || e != api.ErrArg {
				t.Errorf("Next(%v, %d): %v, %d", s, event, is, e)
			}
		}
		for _, l := range [][]int{nil, {}, {fault.Restart}, {fault.Sent, fault.Got}, {0}} {
			if is, e := fault.After(s, l); is != (fault.State{}) || e != api.ErrArg {
				t.Errorf("After(%v, %v): %v, %d", s, l, is, e)
			}
		}
	}
}

func TestOtherEventsAreRefused(t *testing.T) {
	for _, s := range []fault.State{{}, {TEC: 5, REC: 6}, {TEC: 128}, {TEC: 255, REC: 255}, {TEC: 256, Off: true}, {TEC: 263, REC: 255, Off: true}} {
		for _, event := range noEvents {
			if is, e := fault.Next(s, event); is != (fault.State{}) || e != api.ErrArg {
				t.Errorf("Next(%v, %d): %v, %d", s, event, is, e)
			}
			for n := range 10 {
				for at := range n + 1 {
					l := slices.Insert(slices.Repeat([]int{fault.SendError}, n), at, event)
					if is, e := fault.After(s, l); is != (fault.State{}) || e != api.ErrArg {
						t.Errorf("After(%v, %v): %v, %d", s, l, is, e)
					}
				}
			}
		}
	}
}

func TestAfter(t *testing.T) {
	const s, g, x, y, u, r = fault.Sent, fault.Got, fault.SendError, fault.GetError, fault.Unheard, fault.Restart
	for _, c := range []struct {
		from fault.State
		l    []int
		want fault.State
	}{
		{fault.State{}, nil, fault.State{}},
		{fault.State{TEC: 9, REC: 8}, nil, fault.State{TEC: 9, REC: 8}},
		{fault.State{TEC: 9, REC: 8}, []int{}, fault.State{TEC: 9, REC: 8}},
		{fault.State{TEC: 256, REC: 8, Off: true}, nil, fault.State{TEC: 256, REC: 8, Off: true}},
		{fault.State{}, []int{x, s}, fault.State{TEC: 7}},
		{fault.State{}, []int{s, x}, fault.State{TEC: 8}},
		{fault.State{}, []int{y, g, y, y, r}, fault.State{REC: 2}},
		{fault.State{REC: 127}, []int{u, y, u, g, u}, fault.State{TEC: 16, REC: 120}},
		{fault.State{TEC: 248}, []int{x, x, s, g, y, u}, fault.State{TEC: 256, Off: true}},
		{fault.State{TEC: 248}, []int{x, r, r, y, u}, fault.State{TEC: 8, REC: 1}},
		{fault.State{TEC: 248}, []int{s, x, x}, fault.State{TEC: 263, Off: true}},
	} {
		afterIs(t, c.from, c.l, c.want)
	}
}

// The chapter's examples, and the last ones ahead of them.
func TestSendErrorsOfANewOne(t *testing.T) {
	for _, x := range []struct {
		n    int
		want fault.State
		mode int
	}{
		{15, fault.State{TEC: 120}, fault.Active},
		{16, fault.State{TEC: 128}, fault.Passive},
		{31, fault.State{TEC: 248}, fault.Passive},
		{32, fault.State{TEC: 256, Off: true}, fault.Off},
		{33, fault.State{TEC: 256, Off: true}, fault.Off},
	} {
		afterIs(t, fault.State{}, slices.Repeat([]int{fault.SendError}, x.n), x.want)
		if m, e := fault.Mode(x.want); m != x.mode || e != api.OK {
			t.Errorf("%d SendErrors: %d, %d", x.n, m, e)
		}
	}
}

// A list of events is one event behind the other.
func TestAfterOfLongLists(t *testing.T) {
	mix := rand.New(rand.NewSource(11))
	all := states()
	for n := range 2000 {
		s := all[mix.Intn(len(all))]
		want := s
		var l []int
		for range n {
			event := events[mix.Intn(len(events))]
			l = append(l, event)
			want = told(want, event)
		}
		afterIs(t, s, l, want)
	}
	afterIs(t, fault.State{}, slices.Repeat([]int{fault.GetError}, 1<<20), fault.State{REC: 255})
	afterIs(t, fault.State{TEC: 255, REC: 128}, slices.Repeat([]int{fault.Sent, fault.Got}, 1<<20), fault.State{})
}

// P11.2

func TestWhatFollowsMayBe(t *testing.T) {
	for _, s := range states() {
		for _, event := range events {
			if is := next(t, s, event); fault.Check(is) != api.OK {
				t.Errorf("Next(%v, %d): %v may not be", s, event, is)
			}
		}
	}
}

// All that a new one can come to is gone through.
func TestWhatANewOneComesToMayBe(t *testing.T) {
	seen := map[fault.State]bool{{}: true}
	for wait := []fault.State{{}}; len(wait) > 0; {
		s := wait[0]
		wait = wait[1:]
		if e := fault.Check(s); e != api.OK {
			t.Errorf("%v: %d", s, e)
		}
		for _, event := range events {
			if is := next(t, s, event); !seen[is] {
				seen[is] = true
				wait = append(wait, is)
			}
		}
	}
	if !seen[fault.State{TEC: 263, REC: 255, Off: true}] || !seen[fault.State{TEC: 255, REC: 255}] {
		t.Error("the greatest counters aren't reached")
	}
}

func TestNobodyGoesOffWithoutErrorsInSending(t *testing.T) {
	for _, s := range states() {
		for _, event := range []int{fault.Sent, fault.Got, fault.GetError, fault.Restart} {
			is := next(t, s, event)
			if is.Off && !s.Off {
				t.Errorf("Next(%v, %d): %v", s, event, is)
			}
			if !s.Off && is.TEC > s.TEC {
				t.Errorf("Next(%v, %d) has a higher TEC: %v", s, event, is)
			}
		}
	}
	mix := rand.New(rand.NewSource(112))
	for range 100 {
		l := slices.Repeat([]int{fault.Sent, fault.Got, fault.GetError, fault.GetError, fault.Restart}, 200)
		mix.Shuffle(len(l), func(i, j int) { l[i], l[j] = l[j], l[i] })
		if s, e := fault.After(fault.State{TEC: 255, REC: 255}, l); s.Off || e != api.OK {
			t.Error(s, e)
		}
	}
}

// One that nobody hears doesn't get beyond Passive by that.
func TestUnheardAloneIsNeverOff(t *testing.T) {
	for _, s := range states() {
		if is := next(t, s, fault.Unheard); is.Off != s.Off {
			t.Errorf("%v unheard: %v", s, is)
		}
	}
	afterIs(t, fault.State{}, slices.Repeat([]int{fault.Unheard}, 15), fault.State{TEC: 120})
	afterIs(t, fault.State{}, slices.Repeat([]int{fault.Unheard}, 16), fault.State{TEC: 128})
	afterIs(t, fault.State{}, slices.Repeat([]int{fault.Unheard}, 1000), fault.State{TEC: 128})
}

// modeIs holds how s is behind a list against what is wanted.
func modeIs(t *testing.T, s fault.State, l []int, want int) {
	t.Helper()
	is, e := fault.After(s, l)
	if e != api.OK {
		t.Fatal(s, e)
	}
	if m, e := fault.Mode(is); m != want || e != api.OK {
		t.Errorf("%v behind %d events: %v, mode %d, %d", s, len(l), is, m, e)
	}
}

// In any order: all that is sent first, all that is got first, or in turns.
func TestEnoughThatIsSentAndGotMakesActive(t *testing.T) {
	sent, got := slices.Repeat([]int{fault.Sent}, 128), []int{fault.Got}
	orders := [][]int{append(slices.Clone(sent), got...), append(slices.Clone(got), sent...), slices.Repeat([]int{fault.Sent, fault.Got}, 128)}
	for _, s := range states() {
		want := fault.Active
		if s.Off {
			want = fault.Off
		}
		for _, l := range orders {
			modeIs(t, s, l, want)
		}
	}
	for rec := 128; rec < 256; rec++ {
		modeIs(t, fault.State{REC: rec}, got, fault.Active)
	}
	for tec := 128; tec < 256; tec++ {
		modeIs(t, fault.State{TEC: tec}, slices.Repeat(sent[:1], tec-128), fault.Passive)
		modeIs(t, fault.State{TEC: tec}, slices.Repeat(sent[:1], tec-127), fault.Active)
	}
}

func TestOneThatIsOffIsActiveAgainOfRestartAlone(t *testing.T) {
	off := fault.State{TEC: 256, REC: 200, Off: true}
	afterIs(t, off, slices.Repeat([]int{fault.Sent, fault.Got}, 1000), off)
	afterIs(t, off, []int{fault.Restart}, fault.State{})
	modeIs(t, off, []int{fault.Sent, fault.Restart, fault.Sent}, fault.Active)
}

// DOC.md's rules of what is handed in, and of what answers hang on

func TestWhatIsHandedInStays(t *testing.T) {
	room := []int{1, 2, 3, 4, 5, 6, 7, 8, 9, 10}
	before := slices.Clone(room)
	for n := range room {
		fault.After(fault.State{TEC: 100}, room[:n])
	}
	if !slices.Equal(room, before) {
		t.Error("events are changed:", room)
	}
}

func TestAnswersHangOnArgumentsAlone(t *testing.T) {
	l := []int{fault.SendError, fault.GetError, fault.Unheard}
	for range 100 {
		afterIs(t, fault.State{TEC: 120, REC: 3}, l, fault.State{TEC: 128, REC: 4})
		fault.Next(fault.State{TEC: 248}, fault.SendError)
		fault.After(fault.State{}, []int{fault.SendError, 0})
		fault.Check(fault.State{TEC: -1})
	}
}
