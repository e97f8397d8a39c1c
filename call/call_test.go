package call_test

import (
	"math"
	"math/bits"
	"slices"
	"testing"

	"trunkline/api"
	"trunkline/call"
)

// noise is a fixed row of numbers without order.
type noise uint64

// below is one from 0 on, of the number's highest bits, as its lowest ones come again soon.
func (n *noise) below(most int) int {
	*n = *n*6364136223846793005 + 1442695040888963407
	high, _ := bits.Mul64(uint64(*n), uint64(most))
	return int(high)
}

// Which timer a rule starts.
const (
	noTimer = iota
	setupTimer
	callTimer
	releaseTimer
)

// rule is one thing that is done by the chapter's words: in which phases, at what, and, if once is set, just with Tries 1.
type rule struct {
	in        []int
	what      int
	once      bool
	does      []int
	to, timer int
	tries     int
}

// untouched is the phase of a rule that leaves the state as it is.
const untouched = -1

// rules is the chapter's list, in its order; the first one that fits is done.
func rules() []rule {
	null, incoming, present, outgoing := []int{call.Null}, []int{call.Incoming}, []int{call.Present}, []int{call.Outgoing}
	four := []int{call.Incoming, call.Present, call.Outgoing, call.Active}
	releasing := []int{call.Releasing}
	return []rule{
		{null, call.GotSetup, false, []int{call.SendProceeding, call.Hold}, call.Incoming, callTimer, 0},
		{null, call.Dial, false, []int{call.Hold, call.SendSetup}, call.Present, setupTimer, 1},
		{null, call.GotRelease, false, []int{call.SendComplete}, untouched, noTimer, 0},
		{null, call.GotProceeding, false, []int{call.SendComplete}, untouched, noTimer, 0},
		{null, call.GotConnect, false, []int{call.SendComplete}, untouched, noTimer, 0},
		{incoming, call.Answer, false, []int{call.SendConnect}, call.Active, noTimer, 0},
		{present, call.GotProceeding, false, nil, call.Outgoing, callTimer, 0},
		{present, call.GotConnect, false, nil, call.Active, noTimer, 0},
		{present, call.Timer, true, []int{call.SendSetup}, call.Present, setupTimer, 2},
		{present, call.Timer, false, []int{call.Free}, call.Null, noTimer, 0},
		{outgoing, call.GotConnect, false, nil, call.Active, noTimer, 0},
		{four, call.GotRelease, false, []int{call.SendComplete, call.Free}, call.Null, noTimer, 0},
		{four, call.GotComplete, false, []int{call.Free}, call.Null, noTimer, 0},
		{four, call.Hangup, false, []int{call.SendRelease}, call.Releasing, releaseTimer, 1},
		{incoming, call.Timer, false, []int{call.SendRelease}, call.Releasing, releaseTimer, 1},
		{outgoing, call.Timer, false, []int{call.SendRelease}, call.Releasing, releaseTimer, 1},
		{releasing, call.GotRelease, false, []int{call.Free}, call.Null, noTimer, 0},
		{releasing, call.GotComplete, false, []int{call.Free}, call.Null, noTimer, 0},
		{releasing, call.Timer, true, []int{call.SendRelease}, call.Releasing, releaseTimer, 2},
		{releasing, call.Timer, false, []int{call.Free}, call.Null, noTimer, 0},
	}
}

// held is a timer's time by the chapter's words.
func held(time int) int {
	if time < 1 {
		return 1
	}
	if time > 1<<56 {
		return 1 << 56
	}
	return time
}

// due is when the timer that a rule starts is due; without one it is 0.
func due(timer, at int, w call.Timers) int {
	switch timer {
	case setupTimer:
		return at + held(w.Setup)
	case callTimer:
		return at + held(w.Call)
	case releaseTimer:
		return at + held(w.Release)
	}
	return 0
}

// words is Step by the chapter's list.
func words(list []rule, s call.State, what, at int, w call.Timers) (call.State, []int) {
	if what == call.Timer && (s.Due <= 0 || at < s.Due) {
		return s, nil
	}
	for _, r := range list {
		if r.what != what || !slices.Contains(r.in, s.Phase) || r.once && s.Tries != 1 {
			continue
		}
		if r.to == untouched {
			return s, r.does
		}
		return call.State{Phase: r.to, Due: due(r.timer, at, w), Tries: r.tries}, r.does
	}
	return s, nil
}

// steps asks for one step, and for it again behind spoiling the first answer's list.
func steps(t *testing.T, s call.State, what, at int, w call.Timers, want call.State, does []int) {
	t.Helper()
	for again := range 2 {
		got, list := call.Step(s, what, at, w)
		if got != want || !slices.Equal(list, does) {
			t.Errorf("%d: %v, %d at %d, %v: %v, %v, not %v, %v", again, s, what, at, w, got, list, want, does)
		}
		list = list[:cap(list)]
		for i := range list {
			list[i] = 77
		}
	}
}

// alike holds a step against the chapter's list.
func alike(t *testing.T, list []rule, s call.State, what, at int, w call.Timers) {
	t.Helper()
	want, does := words(list, s, what, at, w)
	steps(t, s, what, at, w, want, does)
}

// answer is what a step answers.
type answer struct {
	state call.State
	does  []int
}

// P19.1: phases, what happens and what is done have the numbers that the chapter's order gives them.
func TestNumbers(t *testing.T) {
	for _, list := range [][]int{
		{call.Null, call.Incoming, call.Present, call.Outgoing, call.Active, call.Releasing},
		{0, call.GotSetup, call.GotProceeding, call.GotConnect, call.GotRelease, call.GotComplete, call.Dial, call.Answer, call.Hangup, call.Timer},
		{0, call.SendSetup, call.SendProceeding, call.SendConnect, call.SendRelease, call.SendComplete, call.Hold, call.Free},
	} {
		for i, n := range list {
			if n != i {
				t.Errorf("%v: %d at %d", list, n, i)
			}
		}
	}
}

// P19.1: the chapter's own example: Null, GotSetup at 5 is Incoming, due at 5 and Call's time; Answer is Active.
func TestExample(t *testing.T) {
	w := call.Timers{Setup: 1000, Call: 20, Release: 3000}
	incoming := call.State{Phase: call.Incoming, Due: 25}
	steps(t, call.State{}, call.GotSetup, 5, w, incoming, []int{call.SendProceeding, call.Hold})
	steps(t, incoming, call.Answer, 6, w, call.State{Phase: call.Active}, []int{call.SendConnect})
}

// P19.1: each thing that happens in each phase, written out: at 1000, with a timer that was due at 900, and Tries 1.
func TestEachPhase(t *testing.T) {
	w := call.Timers{Setup: 7, Call: 50, Release: 300}
	stays := answer{call.State{Due: -1}, nil}
	refused := answer{call.State{Due: -1}, []int{call.SendComplete}}
	null := answer{call.State{}, []int{call.Free}}
	released := answer{call.State{}, []int{call.SendComplete, call.Free}}
	incoming := answer{call.State{Phase: call.Incoming, Due: 1050}, []int{call.SendProceeding, call.Hold}}
	dialled := answer{call.State{Phase: call.Present, Due: 1007, Tries: 1}, []int{call.Hold, call.SendSetup}}
	again := answer{call.State{Phase: call.Present, Due: 1007, Tries: 2}, []int{call.SendSetup}}
	outgoing := answer{call.State{Phase: call.Outgoing, Due: 1050}, nil}
	active := answer{call.State{Phase: call.Active}, nil}
	answered := answer{call.State{Phase: call.Active}, []int{call.SendConnect}}
	hungUp := answer{call.State{Phase: call.Releasing, Due: 1300, Tries: 1}, []int{call.SendRelease}}
	releasing := answer{call.State{Phase: call.Releasing, Due: 1300, Tries: 2}, []int{call.SendRelease}}
	for phase, row := range [6][9]answer{
		// GotSetup, GotProceeding, GotConnect, GotRelease, GotComplete, Dial, Answer, Hangup, Timer
		{incoming, refused, refused, refused, stays, dialled, stays, stays, stays},
		{stays, stays, stays, released, null, stays, answered, hungUp, hungUp},
		{stays, outgoing, active, released, null, stays, stays, hungUp, again},
		{stays, stays, active, released, null, stays, stays, hungUp, hungUp},
		{stays, stays, stays, released, null, stays, stays, hungUp, stays},
		{stays, stays, stays, null, null, stays, stays, stays, releasing},
	} {
		for i, want := range row {
			s := call.State{Phase: phase, Due: 900, Tries: 1}
			if want.state.Due == -1 {
				want.state = s
			}
			steps(t, s, 1+i, 1000, w, want.state, want.does)
		}
	}
}

// P19.1: a Timer just before it is due, when it is due, later, and with none running, with each number of tries, in each phase.
func TestTimer(t *testing.T) {
	w := call.Timers{Setup: 7, Call: 50, Release: 300}
	for _, tries := range []int{math.MinInt, -1, 0, 1, 2, 3, 1 << 40, math.MaxInt} {
		for phase := call.Null; phase <= call.Releasing; phase++ {
			s := func(due int) call.State { return call.State{Phase: phase, Due: due, Tries: tries} }
			for _, c := range []struct {
				due, at int
				is      bool
			}{
				{100, 0, false}, {100, 99, false}, {100, 100, true}, {100, 101, true}, {100, api.MaxTime, true},
				{1, 0, false}, {1, 1, true}, {1, 2, true},
				{0, 0, false}, {0, 1, false}, {0, 100, false}, {0, api.MaxTime, false},
				{-1, 0, false}, {-1, 100, false}, {math.MinInt, 0, false}, {math.MinInt, api.MaxTime, false},
				{api.MaxTime, api.MaxTime - 1, false}, {api.MaxTime, api.MaxTime, true},
				{api.MaxTime + 1, api.MaxTime, false}, {math.MaxInt, api.MaxTime, false},
			} {
				want := answer{s(c.due), nil}
				switch {
				case !c.is || phase == call.Null || phase == call.Active:
				case phase == call.Incoming || phase == call.Outgoing:
					want = answer{call.State{Phase: call.Releasing, Due: c.at + 300, Tries: 1}, []int{call.SendRelease}}
				case tries != 1:
					want = answer{call.State{}, []int{call.Free}}
				case phase == call.Present:
					want = answer{call.State{Phase: call.Present, Due: c.at + 7, Tries: 2}, []int{call.SendSetup}}
				default:
					want = answer{call.State{Phase: call.Releasing, Due: c.at + 300, Tries: 2}, []int{call.SendRelease}}
				}
				steps(t, s(c.due), call.Timer, c.at, w, want.state, want.does)
			}
		}
	}
}

// P19.1: GotRelease, GotProceeding and GotConnect at Null leave Due and Tries as they are, whatever those are; the two that begin a call don't.
func TestNullStays(t *testing.T) {
	w := call.Timers{Setup: 7, Call: 50, Release: 300}
	for _, due := range []int{math.MinInt, -1, 0, 1, 5, 99, 100, 101, api.MaxTime, math.MaxInt} {
		for _, tries := range []int{math.MinInt, -1, 0, 1, 2, 3, math.MaxInt} {
			s := call.State{Due: due, Tries: tries}
			for _, what := range []int{call.GotRelease, call.GotProceeding, call.GotConnect} {
				steps(t, s, what, 100, w, s, []int{call.SendComplete})
			}
			for _, what := range []int{call.GotComplete, call.Answer, call.Hangup, call.Timer} {
				steps(t, s, what, 100, w, s, nil)
			}
			steps(t, s, call.GotSetup, 100, w, call.State{Phase: call.Incoming, Due: 150}, []int{call.SendProceeding, call.Hold})
			steps(t, s, call.Dial, 100, w, call.State{Phase: call.Present, Due: 107, Tries: 1}, []int{call.Hold, call.SendSetup})
		}
	}
}

// P19.1: where no timer is started, and the phase is another one, Due and Tries are 0, whatever they were.
func TestNoTimer(t *testing.T) {
	w := call.Timers{Setup: 7, Call: 50, Release: 300}
	for _, due := range []int{math.MinInt, -1, 0, 1, 99, 100, 101, math.MaxInt} {
		for _, tries := range []int{math.MinInt, -1, 0, 1, 2, 3, math.MaxInt} {
			at := func(phase int) call.State { return call.State{Phase: phase, Due: due, Tries: tries} }
			active := call.State{Phase: call.Active}
			steps(t, at(call.Incoming), call.Answer, 100, w, active, []int{call.SendConnect})
			steps(t, at(call.Present), call.GotConnect, 100, w, active, nil)
			steps(t, at(call.Outgoing), call.GotConnect, 100, w, active, nil)
			for phase := call.Incoming; phase <= call.Active; phase++ {
				steps(t, at(phase), call.GotRelease, 100, w, call.State{}, []int{call.SendComplete, call.Free})
				steps(t, at(phase), call.GotComplete, 100, w, call.State{}, []int{call.Free})
			}
			steps(t, at(call.Releasing), call.GotRelease, 100, w, call.State{}, []int{call.Free})
			steps(t, at(call.Releasing), call.GotComplete, 100, w, call.State{}, []int{call.Free})
			steps(t, at(call.Present), call.GotProceeding, 100, w, call.State{Phase: call.Outgoing, Due: 150}, nil)
		}
	}
}

// P19.1: of a phase below 0 or above the last one, and of what happens below 1 or above the last one, the state stays, and nothing is done.
func TestNotNamed(t *testing.T) {
	w := call.Timers{Setup: 7, Call: 50, Release: 300}
	for _, due := range []int{-1, 0, 99, 100, 101} {
		for _, tries := range []int{-1, 0, 1, 2} {
			for _, phase := range []int{math.MinInt, -1 << 32, -2, -1, 6, 7, 9, 1 << 32, 1<<32 + 1, math.MaxInt} {
				s := call.State{Phase: phase, Due: due, Tries: tries}
				for what := -2; what <= 12; what++ {
					steps(t, s, what, 100, w, s, nil)
				}
			}
			for phase := call.Null; phase <= call.Releasing; phase++ {
				s := call.State{Phase: phase, Due: due, Tries: tries}
				for _, what := range []int{math.MinInt, -1 << 32, -9, -2, -1, 0, 10, 11, 1 << 32, 1<<32 + 1, 1<<32 + 9, math.MaxInt} {
					steps(t, s, what, 100, w, s, nil)
				}
			}
		}
	}
}

// lengths are times of timers: below what they are held at, in between, at its end, and above.
var lengths = []int{math.MinInt, -1 << 56, -1, 0, 1, 2, 1000, 1 << 40, 1<<56 - 1, 1 << 56, 1<<56 + 1, api.MaxTime, math.MaxInt}

// P19.1: each of the three timers is held from 1 to MaxTime / 16, at each time that it is started, and no other one plays a part.
func TestHeld(t *testing.T) {
	for _, length := range lengths {
		for _, other := range []int{3, math.MinInt, math.MaxInt} {
			for _, at := range []int{0, 1, 500, api.MaxTime - 1, api.MaxTime} {
				w, due := call.Timers{Setup: length, Call: other, Release: other}, at+held(length)
				once, late := call.State{Phase: call.Present, Due: 1, Tries: 1}, max(at, 1)
				steps(t, call.State{}, call.Dial, at, w, call.State{Phase: call.Present, Due: due, Tries: 1}, []int{call.Hold, call.SendSetup})
				steps(t, once, call.Timer, late, w, call.State{Phase: call.Present, Due: due + late - at, Tries: 2}, []int{call.SendSetup})
				w = call.Timers{Setup: other, Call: length, Release: other}
				steps(t, call.State{}, call.GotSetup, at, w, call.State{Phase: call.Incoming, Due: due}, []int{call.SendProceeding, call.Hold})
				steps(t, once, call.GotProceeding, at, w, call.State{Phase: call.Outgoing, Due: due}, nil)
				w = call.Timers{Setup: other, Call: other, Release: length}
				hungUp := call.State{Phase: call.Releasing, Due: due, Tries: 1}
				for phase := call.Incoming; phase <= call.Active; phase++ {
					steps(t, call.State{Phase: phase}, call.Hangup, at, w, hungUp, []int{call.SendRelease})
				}
				hungUp.Due = due + late - at
				steps(t, call.State{Phase: call.Incoming, Due: 1}, call.Timer, late, w, hungUp, []int{call.SendRelease})
				steps(t, call.State{Phase: call.Outgoing, Due: 1}, call.Timer, late, w, hungUp, []int{call.SendRelease})
				hungUp.Tries = 2
				steps(t, call.State{Phase: call.Releasing, Due: 1, Tries: 1}, call.Timer, late, w, hungUp, []int{call.SendRelease})
			}
		}
	}
}

// P19.2: Longest, written out, and of all timers at the edges of what they are held at.
func TestLongest(t *testing.T) {
	const most = 1 << 56
	for _, c := range []struct {
		w    call.Timers
		want int
	}{
		{call.Timers{}, 5}, {call.Timers{Setup: 1, Call: 1, Release: 1}, 5}, {call.Timers{Setup: -9, Call: math.MinInt, Release: -1}, 5},
		{call.Timers{Setup: 2, Call: 1, Release: 1}, 7}, {call.Timers{Setup: 1, Call: 2, Release: 1}, 6}, {call.Timers{Setup: 1, Call: 1, Release: 2}, 7},
		{call.Timers{Setup: 4, Call: 10, Release: 30}, 78}, {call.Timers{Setup: 1000, Call: 20, Release: 3}, 2026},
		{call.Timers{Setup: most, Call: most, Release: most}, 5 * most}, {call.Timers{Setup: most - 1, Call: most - 1, Release: most - 1}, 5*most - 5},
		{call.Timers{Setup: math.MaxInt, Call: math.MaxInt, Release: math.MaxInt}, 5 * most}, {call.Timers{Setup: most + 1, Call: 0, Release: 7}, 2*most + 15},
		{call.Timers{Setup: 0, Call: most + 1, Release: 7}, most + 16}, {call.Timers{Setup: 7, Call: 0, Release: api.MaxTime}, 2*most + 15},
	} {
		if n := call.Longest(c.w); n != c.want {
			t.Errorf("%v: %d, not %d", c.w, n, c.want)
		}
	}
	for _, setup := range lengths {
		for _, whole := range lengths {
			for _, release := range lengths {
				w := call.Timers{Setup: setup, Call: whole, Release: release}
				if n, want := call.Longest(w), 2*held(setup)+held(whole)+2*held(release); n != want {
					t.Errorf("%v: %d, not %d", w, n, want)
				}
			}
		}
	}
}

// P19.1: all phases near the six by all that happens near the nine, with timers due earlier, now, later and never, with few tries and many, at each edge of the times.
func TestAllSteps(t *testing.T) {
	list := rules()
	dues := []int{math.MinInt, -1, 0, 1, 2, 500, 501, 502, api.MaxTime, api.MaxTime + 1, math.MaxInt}
	for phase := -2; phase <= 8; phase++ {
		for what := -2; what <= 12; what++ {
			for _, due := range dues {
				for _, tries := range []int{-1, 0, 1, 2, 3} {
					for _, at := range []int{0, 1, 2, 501, api.MaxTime - 1, api.MaxTime} {
						for _, w := range []call.Timers{{}, {Setup: 4, Call: 10, Release: 30}, {Setup: math.MaxInt, Call: 1 << 56, Release: 1<<56 - 1}} {
							alike(t, list, call.State{Phase: phase, Due: due, Tries: tries}, what, at, w)
						}
					}
				}
			}
		}
	}
}

// P19.1: steps at random, with numbers of any size.
func TestManySteps(t *testing.T) {
	n, list := noise(1), rules()
	size := func() int { return n.below(1<<n.below(62)) - n.below(3) }
	for range 300000 {
		s := call.State{Phase: n.below(6), Due: size(), Tries: n.below(4)}
		at := n.below(api.MaxTime + 1)
		if n.below(2) == 0 {
			at = min(max(s.Due+n.below(3)-1, 0), api.MaxTime)
		}
		alike(t, list, s, 1+n.below(9), at, call.Timers{Setup: size(), Call: size(), Release: size()})
	}
}

// R1: no call panics, at times that no chapter allows, either.
func TestAnyNumbers(t *testing.T) {
	ends := []int{math.MinInt, math.MinInt + 1, -1, 0, 1, 5, api.MaxTime, math.MaxInt - 1, math.MaxInt}
	for _, due := range ends {
		for _, at := range ends {
			for phase := -1; phase <= 6; phase++ {
				for what := range 11 {
					call.Step(call.State{Phase: phase, Due: due, Tries: 1}, what, at, call.Timers{Setup: due, Call: at, Release: phase})
				}
			}
		}
	}
}

// walk is a call that is gone on with: what it is in, what it is at, and whether it holds something by what was done.
type walk struct {
	state call.State
	at    int
	holds bool
}

// goes takes a step, and tells whether what it holds can be: Hold when it holds nothing, Free when it does, and just Null holds nothing.
func (k *walk) goes(t *testing.T, what, at int, w call.Timers) {
	t.Helper()
	was := *k
	var list []int
	k.state, list = call.Step(k.state, what, at, w)
	k.at = at
	for _, does := range list {
		if does == call.Hold && k.holds || does == call.Free && !k.holds {
			t.Fatalf("%v, %d at %d: %v, out of turn", was, what, at, list)
		}
		k.holds = k.holds != (does == call.Hold || does == call.Free)
	}
	if k.holds != (k.state.Phase != call.Null) {
		t.Fatalf("%v, %d at %d: %v, %v", was, what, at, k.state, list)
	}
}

// settled tells whether a call waits for nothing any more.
func settled(s call.State) bool { return s.Phase == call.Null || s.Phase == call.Active }

// runsOut has nothing but the timer come, when it is due and, if often is set, ahead of that, too, and tells whether the call is settled in time.
func runsOut(t *testing.T, k walk, w call.Timers, often bool) {
	t.Helper()
	first := k
	end := k.at + call.Longest(w)
	for range 8 {
		if settled(k.state) {
			break
		}
		if k.state.Due <= 0 {
			t.Fatalf("%v, %v: no timer runs", first, k)
		}
		due := max(k.at, k.state.Due)
		if often && due > k.at && due == k.state.Due {
			was := k.state
			k.goes(t, call.Timer, k.at, w)
			k.goes(t, call.Timer, k.at+(due-k.at)/2, w)
			k.goes(t, call.Timer, due-1, w)
			if k.state != was {
				t.Fatalf("%v: %v before it was due", was, k.state)
			}
		}
		k.goes(t, call.Timer, due, w)
	}
	if !settled(k.state) || k.at > end {
		t.Fatalf("%v: %v, though it had to be settled at %d", first, k, end)
	}
}

// P19.3: all rows of up to five things, a timer too early and one that is due among them, from a call that is Null; behind each the timer runs out.
func TestAllRows(t *testing.T) {
	w := call.Timers{Setup: 4, Call: 10, Release: 30}
	var on func(k walk, left int)
	on = func(k walk, left int) {
		runsOut(t, k, w, true)
		if left == 0 {
			return
		}
		for what := call.GotSetup; what <= call.Timer; what++ {
			next := k
			next.goes(t, what, k.at+1, w)
			on(next, left-1)
		}
		if k.state.Due > k.at {
			k.goes(t, call.Timer, k.state.Due, w)
			on(k, left-1)
		}
	}
	on(walk{}, 5)
}

// P19.3: long rows at random, with timers short and long, and looked at late; behind some of it the timer runs out.
func TestLongRows(t *testing.T) {
	n := noise(2)
	for range 2000 {
		size := func() int { return n.below(1 << n.below(58)) }
		w := call.Timers{Setup: size(), Call: size(), Release: size()}
		k, list := walk{}, rules()
		for range 60 {
			at := k.at + n.below(1<<n.below(50))
			if n.below(3) == 0 {
				at = max(k.at, k.state.Due+n.below(2))
			}
			if at > api.MaxTime/2 {
				break
			}
			what := n.below(11)
			alike(t, list, k.state, what, at, w)
			k.goes(t, what, at, w)
			runsOut(t, k, w, n.below(2) == 0)
		}
	}
}

// P19.3, P19.2: how long a call of either side takes to run out, at the most; no shorter Longest would hold of both its parts.
func TestRunsOutAtLast(t *testing.T) {
	for _, w := range []call.Timers{{Setup: 4, Call: 10, Release: 30}, {}, {Setup: 1 << 60, Call: 1 << 60, Release: 1 << 60}} {
		for _, c := range []struct {
			row  []int
			want int
		}{
			{[]int{call.GotSetup}, held(w.Call) + 2*held(w.Release)},
			{[]int{call.Dial}, 2 * held(w.Setup)},
			{[]int{call.Dial, call.GotProceeding}, held(w.Call) + 2*held(w.Release)},
			{[]int{call.Dial, call.GotConnect, call.Hangup}, 2 * held(w.Release)},
		} {
			k := walk{at: 100}
			for _, what := range c.row {
				k.goes(t, what, 100, w)
			}
			for range 6 {
				k.goes(t, call.Timer, max(k.at, k.state.Due), w)
			}
			if k.state != (call.State{}) || k.at != 100+c.want {
				t.Errorf("%v, %v: %v, not at %d", c.row, w, k, 100+c.want)
			}
			if c.want > call.Longest(w) {
				t.Errorf("%v, %v: longer than %d", c.row, w, call.Longest(w))
			}
		}
	}
}

// R3, R5: what an answer's list is written over with plays no part in any later answer, of that step or of another one.
func TestOwnLists(t *testing.T) {
	w, list := call.Timers{Setup: 4, Call: 10, Release: 30}, rules()
	var kept [][]int
	var wants [][]int
	each := func(does func(s call.State, what int)) {
		for phase := range 6 {
			for what := 1; what <= 9; what++ {
				for tries := range 3 {
					does(call.State{Phase: phase, Due: 1, Tries: tries}, what)
				}
			}
		}
	}
	each(func(s call.State, what int) {
		_, does := call.Step(s, what, 9, w)
		_, want := words(list, s, what, 9, w)
		kept, wants = append(kept, does), append(wants, want)
	})
	for i := range kept {
		if !slices.Equal(kept[i], wants[i]) {
			t.Errorf("%d: %v, not %v", i, kept[i], wants[i])
		}
		whole := kept[i][:cap(kept[i])]
		for j := range whole {
			whole[j] = -1
		}
	}
	each(func(s call.State, what int) { alike(t, list, s, what, 9, w) })
}
