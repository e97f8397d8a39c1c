package shaper_test

import (
	"fmt"
	"math"
	"testing"

	"trunkline/api"
	"trunkline/bucket"
	"trunkline/shaper"
)

const top = api.MaxTime

// edges are the numbers at both ends of what times and spans are held to, those beyond, and some between.
var edges = []int{math.MinInt, math.MinInt + 1, -top - 1, -top, -1, 0, 1, 2, 10, top / 2, top - 1, top, top + 1, 2 * top, 4 * top, math.MaxInt - 1, math.MaxInt}

// noise makes numbers by a fixed rule, so that every run has the same ones.
type noise uint64

func (n *noise) below(most int) int {
	*n = *n*6364136223846793005 + 1442695040888963407
	return int((uint64(*n) >> 32) % uint64(most))
}

func within(x, least, most int) int {
	if x < least {
		return least
	}
	if x > most {
		return most
	}
	return x
}

// wish is a change of the tests' own, with its number in the order in which all were set.
type wish struct{ number, step, from int }

// words is a shaper by the chapter's words: changes with their numbers, of which the next one by time and number is looked for, one by one, and a level at a time, as in layer 5.
type words struct {
	step, early, slow, quick int
	set                      int
	onTheirWay               map[int]wish
	begun                    bool
	at, level                int
}

func wordsOf(step, early, slow, quick int) *words {
	w := &words{step: within(step, 1, top), early: within(early, 0, top), slow: within(slow, 0, top), quick: within(quick, 0, top), onTheirWay: map[int]wish{}}
	if w.quick > w.slow {
		w.quick = w.slow
	}
	return w
}

// next is the first change by its time, of one time by its number, of those that a time has come for.
func (w *words) next(t int, gone map[int]bool) (wish, bool) {
	var first wish
	found := false
	for n, x := range w.onTheirWay {
		if x.from > t || gone[n] {
			continue
		}
		if !found || x.from < first.from || x.from == first.from && n < first.number {
			first, found = x, true
		}
	}
	return first, found
}

// would is the step that it would have at a time, and the numbers of the changes that would have come.
func (w *words) would(t int) (int, map[int]bool) {
	step, gone := w.step, map[int]bool{}
	for {
		x, ok := w.next(t, gone)
		if !ok {
			return step, gone
		}
		step, gone[x.number] = x.step, true
	}
}

func (w *words) come(t int) {
	step, gone := w.would(t)
	w.step = step
	for n := range gone {
		delete(w.onTheirWay, n)
	}
}

func (w *words) Set(t, step int) api.Errno {
	t, step = within(t, 0, top), within(step, 1, top)
	w.come(t)
	if len(w.onTheirWay) >= 8 {
		return api.ErrFull
	}
	last, against := 0, w.step
	for n, x := range w.onTheirWay {
		if n > last {
			last, against = n, x.step
		}
	}
	x := wish{step: step, from: t + w.slow}
	if step < against {
		x.from = t + w.quick
	}
	w.set++
	x.number = w.set
	w.onTheirWay[x.number] = x
	return api.OK
}

func (w *words) Step(t int) int {
	step, _ := w.would(within(t, 0, top))
	return step
}

func (w *words) Take(t int) bool {
	t = within(t, 0, top)
	w.come(t)
	there := w.level - (t - w.at)
	if w.begun && there > w.early {
		return false
	}
	if !w.begun || there < 0 {
		there = 0
	}
	w.begun, w.at, w.level = true, t, there+w.step
	return true
}

func (w *words) Waiting() int { return len(w.onTheirWay) }

// either is a shaper, or the tests' own.
type either interface {
	Set(t, step int) api.Errno
	Step(t int) int
	Take(t int) bool
	Waiting() int
}

// act is one of the calls that change a shaper: a cell at t, or, with a change, a step that is set at t.
type act struct {
	t, step int
	change  bool
}

func take(t int) act      { return act{t: t} }
func set(t, step int) act { return act{t, step, true} }

func (a act) do(s either) string {
	if a.change {
		return fmt.Sprintf("Set(%d, %d): %d", a.t, a.step, s.Set(a.t, a.step))
	}
	return fmt.Sprintf("Take(%d): %t", a.t, s.Take(a.t))
}

// spans are what New is handed.
type spans struct{ step, early, slow, quick int }

func (x spans) both() (*shaper.Shaper, *words) {
	return shaper.New(x.step, x.early, x.slow, x.quick), wordsOf(x.step, x.early, x.slow, x.quick)
}

// same hands a row of calls to a shaper and to the tests' own, and asks both behind each of them.
func same(t *testing.T, x spans, row []act, asked ...int) {
	t.Helper()
	s, w := x.both()
	for i, a := range row {
		if got, want := a.do(s), a.do(w); got != want {
			t.Fatalf("%+v, behind %v: %s, not %s", x, row[:i], got, want)
		}
		if got, want := s.Waiting(), w.Waiting(); got != want {
			t.Fatalf("%+v, behind %v: Waiting: %d, not %d", x, row[:i+1], got, want)
		}
		for _, at := range asked {
			if got, want := s.Step(at), w.Step(at); got != want {
				t.Fatalf("%+v, behind %v: Step(%d): %d, not %d", x, row[:i+1], at, got, want)
			}
		}
	}
}

// rows are all rows of so many numbers below some.
func rows(below, many int, yield func([]int)) {
	row := make([]int, many)
	var lay func(int)
	lay = func(at int) {
		if at == many {
			yield(row)
			return
		}
		for x := range below {
			row[at] = x
			lay(at + 1)
		}
	}
	lay(0)
}

func right(t *testing.T, s *shaper.Shaper, at, step int) {
	t.Helper()
	if e := s.Set(at, step); e != api.OK {
		t.Errorf("Set(%d, %d): %d", at, step, e)
	}
}

// steps holds what Step says against pairs of a time and the step that is to be in force there.
func steps(t *testing.T, s *shaper.Shaper, pairs ...[2]int) {
	t.Helper()
	for _, p := range pairs {
		if got := s.Step(p[0]); got != p[1] {
			t.Errorf("Step(%d): %d, not %d", p[0], got, p[1])
		}
	}
}

func waits(t *testing.T, s *shaper.Shaper, want int) {
	t.Helper()
	if got := s.Waiting(); got != want {
		t.Errorf("Waiting: %d, not %d", got, want)
	}
}

// P8.1: the chapter's example.
func TestExample(t *testing.T) {
	s := shaper.New(10, 0, 5, 2)
	right(t, s, 0, 4)
	steps(t, s, [2]int{0, 10}, [2]int{1, 10}, [2]int{2, 4}, [2]int{99, 4})
	right(t, s, 0, 9)
	steps(t, s, [2]int{0, 10}, [2]int{1, 10}, [2]int{2, 4}, [2]int{4, 4}, [2]int{5, 9}, [2]int{99, 9})
	waits(t, s, 2)
}

// P8.1: a change to a shorter step is in force QUICK ticks later, one to a longer step or to the same one SLOW ticks.
func TestShorterLongerSame(t *testing.T) {
	for step, from := range map[int]int{1: 102, 9: 102, 10: 105, 11: 105, top: 105} {
		s := shaper.New(10, 0, 5, 2)
		right(t, s, 100, step)
		steps(t, s, [2]int{0, 10}, [2]int{100, 10}, [2]int{from - 1, 10}, [2]int{from, step}, [2]int{top, step})
	}
}

// P8.1: what a step is held against: the change that was set last and is on its way, whether or not another one will be in force later; the shaper's, if none is.
func TestShorterThanWhat(t *testing.T) {
	s := shaper.New(10, 0, 20, 5)
	right(t, s, 0, 30) // from 20 on
	right(t, s, 0, 25) // shorter than 30, not than 10: from 5 on
	right(t, s, 0, 28) // longer than 25, not than 30: from 20 on
	right(t, s, 0, 28) // the same: from 20 on
	steps(t, s, [2]int{4, 10}, [2]int{5, 25}, [2]int{19, 25}, [2]int{20, 28})

	s = shaper.New(10, 0, 20, 5)
	right(t, s, 0, 30) // from 20 on
	right(t, s, 0, 4)  // from 5 on
	right(t, s, 6, 8)  // 4 is in force; 30 is the last on its way: from 11 on
	waits(t, s, 2)
	steps(t, s, [2]int{6, 4}, [2]int{10, 4}, [2]int{11, 8}, [2]int{19, 8}, [2]int{20, 30})

	s = shaper.New(10, 0, 20, 5)
	right(t, s, 0, 4)
	right(t, s, 5, 8) // none is on its way, and it is longer than 4: from 25 on
	waits(t, s, 1)
	steps(t, s, [2]int{5, 4}, [2]int{24, 4}, [2]int{25, 8})

	s = shaper.New(10, 0, 20, 5)
	right(t, s, 0, 4)
	right(t, s, 4, 8) // 4 is still on its way: from 24 on
	right(t, s, 4, 7) // from 9 on
	waits(t, s, 3)
	steps(t, s, [2]int{4, 10}, [2]int{5, 4}, [2]int{9, 7}, [2]int{23, 7}, [2]int{24, 8})
}

// P8.1, P8.2: a change has come just at its time, and not a tick earlier, whichever call comes there.
func TestJustAtItsTime(t *testing.T) {
	made := func() *shaper.Shaper {
		s := shaper.New(10, 0, 20, 5)
		right(t, s, 100, 3)
		waits(t, s, 1)
		return s
	}
	s := made()
	s.Take(104)
	waits(t, s, 1)
	s.Take(105)
	waits(t, s, 0)

	s = made()
	right(t, s, 104, 3)
	waits(t, s, 2)
	s = made()
	right(t, s, 105, 3)
	waits(t, s, 1)

	for at, next := range map[int]int{104: 114, 105: 108} {
		s = made()
		if !s.Take(at) || s.Take(next-1) || !s.Take(next) {
			t.Errorf("a cell at %d: the next one isn't at %d", at, next)
		}
	}
}

// P8.1: of changes of one time the one that was set last is in force, whichever of them is shorter.
func TestOfOneTime(t *testing.T) {
	s := shaper.New(10, 0, 5, 5)
	right(t, s, 0, 4)
	right(t, s, 0, 9)
	right(t, s, 0, 6)
	steps(t, s, [2]int{4, 10}, [2]int{5, 6})
	s.Take(5)
	waits(t, s, 0)
	steps(t, s, [2]int{5, 6})

	s = shaper.New(10, 0, 20, 5)
	right(t, s, 0, 30) // from 20 on
	right(t, s, 15, 4) // from 20 on, set later
	steps(t, s, [2]int{19, 10}, [2]int{20, 4})

	s = shaper.New(10, 0, 20, 5)
	right(t, s, 15, 4) // from 20 on
	right(t, s, 0, 30) // from 20 on, set later
	steps(t, s, [2]int{19, 10}, [2]int{20, 30})

	s = shaper.New(10, 0, 20, 5)
	right(t, s, 0, 30) // from 20 on
	right(t, s, 1, 4)  // from 6 on
	right(t, s, 0, 40) // from 20 on, and the last of these
	steps(t, s, [2]int{5, 10}, [2]int{6, 4}, [2]int{19, 4}, [2]int{20, 40})
}

// P8.1: changes go by their times, in whichever order they were set.
func TestOtherOrder(t *testing.T) {
	s := shaper.New(100, 0, 50, 10)
	for _, x := range [][2]int{{30, 200}, {20, 90}, {9, 80}, {0, 70}, {5, 60}} {
		right(t, s, x[0], x[1])
	}
	// 200 from 80 on, 90 from 30, 80 from 19, 70 from 10, 60 from 15
	steps(t, s, [2]int{9, 100}, [2]int{10, 70}, [2]int{14, 70}, [2]int{15, 60}, [2]int{18, 60}, [2]int{19, 80}, [2]int{29, 80}, [2]int{30, 90}, [2]int{79, 90}, [2]int{80, 200})
	for _, x := range [][3]int{{9, 5, 100}, {10, 4, 70}, {18, 3, 60}, {30, 1, 90}, {79, 1, 90}, {80, 0, 200}} {
		s.Take(x[0])
		waits(t, s, x[1])
		steps(t, s, [2]int{0, x[2]}, [2]int{x[0], x[2]})
	}
}

// full is a shaper with Most changes on their way: the n-th, from 0 on, is to the step 20 + n, from 100 + n on.
func full(t *testing.T) *shaper.Shaper {
	t.Helper()
	s := shaper.New(10, 0, 100, 0)
	for n := range shaper.Most {
		right(t, s, n, 20+n)
		waits(t, s, n+1)
	}
	return s
}

// P8.1: Most changes are on their way; one more is ErrFull, and changes nothing; one more when some have come is none too many.
func TestMost(t *testing.T) {
	if shaper.Most != 8 {
		t.Errorf("Most: %d", shaper.Most)
	}
	s := full(t)
	for _, at := range []int{0, 7, 99, -1, math.MinInt} {
		for _, step := range []int{1, 27, 28, top, 0, math.MaxInt} {
			if e := s.Set(at, step); e != api.ErrFull {
				t.Errorf("Set(%d, %d): %d", at, step, e)
			}
		}
	}
	waits(t, s, shaper.Most)
	for n := range shaper.Most {
		steps(t, s, [2]int{99, 10}, [2]int{100 + n, 20 + n})
	}
	steps(t, s, [2]int{top, 27})

	right(t, s, 100, 50) // one has come: 50 from 200 on
	waits(t, s, shaper.Most)
	if e := s.Set(100, 50); e != api.ErrFull {
		t.Errorf("one has come, two are set: %d", e)
	}
	right(t, s, 103, 40) // shorter than 50: from 103 on
	waits(t, s, 6)
	steps(t, s, [2]int{102, 23}, [2]int{103, 40}, [2]int{104, 24}, [2]int{107, 27}, [2]int{199, 27}, [2]int{200, 50})
	for s.Waiting() < shaper.Most {
		right(t, s, 102, 60)
	}
	if e := s.Set(102, 1); e != api.ErrFull {
		t.Errorf("full once more: %d", e)
	}
	s.Take(top)
	waits(t, s, 0)
	right(t, s, top, 1)
}

// P8.1, R2: cells go on as they would have without a change that was ErrFull.
func TestFullTakes(t *testing.T) {
	for at := range 120 {
		s, o := full(t), full(t)
		s.Take(50)
		o.Take(50)
		if e := s.Set(min(at, 99), 1); e != api.ErrFull {
			t.Fatalf("Set(%d, 1): %d", min(at, 99), e)
		}
		for x := range 30 {
			if got, want := s.Take(at+x), o.Take(at+x); got != want {
				t.Fatalf("from %d on: Take(%d): %t, not %t", at, at+x, got, want)
			}
		}
	}
}

// P8.1: Step of a time changes nothing: the shaper doesn't come there.
func TestStepChangesNothing(t *testing.T) {
	s, o := shaper.New(10, 3, 20, 5), shaper.New(10, 3, 20, 5)
	n := noise(3)
	for range 300 {
		for _, at := range edges {
			first := s.Step(at)
			if s.Step(top); s.Step(at) != first {
				t.Fatalf("Step(%d): %d, then %d", at, first, s.Step(at))
			}
		}
		waits(t, s, o.Waiting())
		a := act{n.below(400), 1 + n.below(20), n.below(2) == 0}
		if got, want := a.do(s), a.do(o); got != want {
			t.Fatalf("%s, not %s", got, want)
		}
	}
}

// P8.1: QUICK is no more than SLOW.
func TestQuickBeyondSlow(t *testing.T) {
	for _, slow := range []int{0, 5, -1, math.MinInt} {
		for _, more := range []int{slow + 1, top, math.MaxInt} {
			from := 100 + max(slow, 0)
			s := shaper.New(10, 0, slow, more)
			right(t, s, 100, 4)
			steps(t, s, [2]int{99, 10}, [2]int{from - 1, 10}, [2]int{from, 4})
		}
	}
}

// P8.1, P8.2: with no ticks between, a change is on its way till the shaper comes to a time, which may be that one.
func TestAtOnce(t *testing.T) {
	s := shaper.New(10, 0, 0, 0)
	for n := range 3 * shaper.Most {
		right(t, s, 7, 20+n)
		waits(t, s, 1)
		steps(t, s, [2]int{7, 20 + n})
	}
	if !s.Take(7) || s.Waiting() != 0 || s.Take(49) || !s.Take(50) {
		t.Error("the step isn't 43 at once")
	}
}

// P8.2: a cell is taken with the step that is in force by then; what has come and is over by then counts for nothing, and the level stays as it is.
func TestTakeBehindChanges(t *testing.T) {
	s := shaper.New(10, 0, 20, 5)
	if !s.Take(0) || s.Take(9) || !s.Take(10) { // in time again at 20
		t.Error("without changes")
	}
	right(t, s, 11, 3)  // from 16 on
	right(t, s, 12, 50) // from 32 on
	if s.Take(19) || s.Waiting() != 1 {
		t.Error("a shorter step took back what there is of the level")
	}
	if !s.Take(20) || s.Take(22) || !s.Take(23) || !s.Take(31) {
		t.Error("with the shorter step")
	}
	if s.Take(33) || s.Waiting() != 0 || !s.Take(34) || s.Take(83) || !s.Take(84) {
		t.Error("with the longer step")
	}

	s = shaper.New(10, 4, 20, 5)
	right(t, s, 0, 100) // from 20 on
	right(t, s, 0, 2)   // from 5 on
	right(t, s, 0, 7)   // from 20 on
	if !s.Take(30) || s.Take(32) || !s.Take(33) || s.Take(39) || !s.Take(40) {
		t.Error("a step that is over counts")
	}
}

// P8.2: EARLY is how early a cell may be, with each step alike.
func TestEarly(t *testing.T) {
	s := shaper.New(10, 6, 1, 1)
	if !s.Take(0) || s.Take(3) || !s.Take(4) { // in time again at 20
		t.Error("step 10")
	}
	right(t, s, 4, 3)
	if s.Take(13) || !s.Take(14) || s.Take(16) || !s.Take(17) || !s.Take(20) {
		t.Error("step 3")
	}
}

// P8.3: without changes it is a bucket of its step and EARLY: all short rows of small times, and of edges.
func TestIsABucket(t *testing.T) {
	beside := func(step, early int, row ...int) {
		s, b := shaper.New(step, early, 3, 2), bucket.New(step, early)
		for i, x := range row {
			if got, want := s.Take(x), b.Take(x); got != want {
				t.Fatalf("New(%d, %d), behind %d: Take(%d): %t, not %t", step, early, row[:i], x, got, want)
			}
		}
		if s.Waiting() != 0 || s.Step(top) != within(step, 1, top) {
			t.Fatalf("New(%d, %d), behind %d: %d wait, step %d", step, early, row, s.Waiting(), s.Step(top))
		}
	}
	for step := range 6 {
		for early := range 7 {
			rows(7, 5, func(row []int) { beside(step-1, early-1, row...) })
		}
	}
	for _, step := range edges {
		for _, early := range edges {
			rows(len(edges), 3, func(row []int) { beside(step, early, edges[row[0]], edges[row[1]], edges[row[2]]) })
		}
	}
	n := noise(8)
	for range 300 {
		now, row := 0, []int{}
		for range 100 {
			now += n.below(40) - 4
			row = append(row, now)
		}
		beside(1+n.below(30), n.below(90), row...)
	}
}

// P8.3: no more cells lie within any L ticks than 1 and (L and EARLY) / the shortest step that there ever was, L 0 among them, while steps change. Spans from one taken cell to another are enough: no other one has more cells in fewer ticks.
func TestBound(t *testing.T) {
	n := noise(83)
	tight := 0
	for range 400 {
		x := spans{1 + n.below(12), n.below(30), n.below(20), n.below(20)}
		s := shaper.New(x.step, x.early, x.slow, x.quick)
		now, shortest, taken := 0, x.step, []int{}
		for range 120 {
			now += n.below(4)
			if n.below(9) == 0 {
				s.Set(now, 1+n.below(12))
			}
			if s.Take(now) {
				taken = append(taken, now)
			}
			shortest = min(shortest, s.Step(now))
		}
		for i := range taken {
			for j := i; j < len(taken); j++ {
				most := 1 + (taken[j]-taken[i]+x.early)/shortest
				if j-i+1 > most {
					t.Fatalf("%+v, shortest %d: from %d to %d lie %d, not %d at most", x, shortest, taken[i], taken[j], j-i+1, most)
				}
				if j-i+1 == most && most > 3 {
					tight++
				}
			}
		}
	}
	if tight == 0 {
		t.Error("no row came up to the bound")
	}
}

// P8.3: within 0 ticks, and just as many as there may be, with a step that a change made.
func TestBoundAtOneTick(t *testing.T) {
	for step := 1; step < 12; step++ {
		for early := range 40 {
			s := shaper.New(20, early, 1, 1)
			right(t, s, 0, step)
			many := 0
			for s.Take(50) {
				many++
			}
			if want := 1 + early/step; many != want {
				t.Errorf("step %d, EARLY %d: %d at one tick, not %d", step, early, many, want)
			}
		}
	}
}

// P8.1: steps are held from 1 to MaxTime, those of New and those of Set; a step that is set is held ahead of being held against another one.
func TestHeldSteps(t *testing.T) {
	for _, x := range edges {
		want := within(x, 1, top)
		steps(t, shaper.New(x, 0, 5, 2), [2]int{0, want}, [2]int{top, want})
		s := shaper.New(10, 0, 5, 2)
		right(t, s, 0, x)
		steps(t, s, [2]int{1, 10}, [2]int{top, want})
		if !s.Take(5) || s.Take(4+want) {
			t.Errorf("a cell is too early with the step %d, and is taken", x)
		}
		if 5+want <= top && !s.Take(5+want) {
			t.Errorf("a cell is in time with the step %d, and isn't taken", x)
		}
	}
	for _, x := range []int{0, -1, math.MinInt} {
		s := shaper.New(1, 0, 5, 2)
		right(t, s, 0, 1)
		right(t, s, 0, x) // like 1, which isn't shorter
		s.Take(4)
		waits(t, s, 2)
	}
	for _, x := range []int{top, top + 1, math.MaxInt} {
		s := shaper.New(x, 0, 5, 2)
		right(t, s, 0, top) // the same
		s.Take(4)
		waits(t, s, 1)
	}
}

// P8.2: EARLY is held from 0 to MaxTime.
func TestHeldEarly(t *testing.T) {
	for _, x := range edges {
		s := shaper.New(10, x, 0, 0)
		want := within(x, 0, top)
		if !s.Take(50) {
			t.Errorf("EARLY %d: the first", x)
		}
		if at := 60 - want; at > 0 && (s.Take(at-1) || !s.Take(at)) {
			t.Errorf("EARLY %d: not just from %d on", x, at)
		}
	}
	for _, x := range []int{top, top + 1, math.MaxInt} {
		s := shaper.New(top, x, 0, 0)
		if !s.Take(0) || !s.Take(0) || s.Take(0) || s.Take(top-1) || !s.Take(top) {
			t.Errorf("EARLY %d isn't MaxTime", x)
		}
	}
}

// P8.1: SLOW and QUICK are held from 0 to MaxTime.
func TestHeldSlowAndQuick(t *testing.T) {
	for _, x := range edges {
		from := within(x, 0, top)
		slow, quick := shaper.New(10, 0, x, 0), shaper.New(10, 0, math.MaxInt, x)
		right(t, slow, 0, 11)
		right(t, quick, 0, 9)
		steps(t, slow, [2]int{from, 11}, [2]int{top, 11})
		steps(t, quick, [2]int{from, 9}, [2]int{top, 9})
		if from > 0 {
			steps(t, slow, [2]int{from - 1, 10})
			steps(t, quick, [2]int{from - 1, 10})
		}
	}
}

// P8.1, P8.2: times below 0 are 0, those beyond MaxTime are MaxTime, in all calls.
func TestHeldTimes(t *testing.T) {
	for _, x := range edges {
		at := within(x, 0, top)
		s := shaper.New(10, 0, 5, 2)
		right(t, s, x, 4)
		if at <= top-2 {
			steps(t, s, [2]int{at + 1, 10}, [2]int{at + 2, 4})
		} else {
			steps(t, s, [2]int{top, 10}, [2]int{math.MaxInt, 10}) // no time comes up to it
		}
		s = shaper.New(10, 0, top/2, top/2)
		right(t, s, 0, 4)
		want, left := 10, 1
		if at >= top/2 {
			want, left = 4, 0
		}
		steps(t, s, [2]int{x, want})
		if !s.Take(x) || s.Waiting() != left {
			t.Errorf("Take(%d): %d wait", x, s.Waiting())
		}
	}
}

// P8.1: the time of a change may lie beyond MaxTime: the shaper comes up to MaxTime, and it stays on its way.
func TestBeyondMaxTime(t *testing.T) {
	s := shaper.New(10, 0, top, 1)
	right(t, s, 1, 20)
	right(t, s, top, 5)
	for _, x := range []int{top, top + 1, 2 * top, math.MaxInt} {
		steps(t, s, [2]int{x, 10})
		s.Take(x)
		waits(t, s, 2)
	}
	right(t, s, top-1, 4)
	steps(t, s, [2]int{top - 1, 10}, [2]int{top, 4})
	for s.Waiting() < shaper.Most {
		right(t, s, top, 30) // that to 4 has come by then
	}
	if e := s.Set(top, 30); e != api.ErrFull {
		t.Errorf("one more: %d", e)
	}
}

// P8.1, P8.2: times may go back: what has come stays in force, what is set for an earlier time comes ahead.
func TestTimesGoBack(t *testing.T) {
	s := shaper.New(10, 0, 20, 5)
	right(t, s, 100, 4) // from 105 on
	if !s.Take(105) || s.Take(50) || s.Waiting() != 0 {
		t.Error("Take went back")
	}
	steps(t, s, [2]int{0, 4}, [2]int{104, 4})
	right(t, s, 10, 3) // from 15 on
	right(t, s, 0, 9)  // from 20 on
	waits(t, s, 2)
	steps(t, s, [2]int{14, 4}, [2]int{15, 3}, [2]int{20, 9})
	if s.Take(14) || s.Waiting() != 2 || s.Take(15) || s.Waiting() != 1 || s.Take(108) || !s.Take(109) || s.Waiting() != 0 {
		t.Error("Take behind what was set earlier")
	}
	if s.Take(117) || !s.Take(118) {
		t.Error("the step isn't 9")
	}
}

// P8.2: a nil Shaper.
func TestNil(t *testing.T) {
	var s *shaper.Shaper
	for _, x := range edges {
		if e := s.Set(x, 5); e != api.ErrFull {
			t.Errorf("Set(%d, 5): %d", x, e)
		}
		if e := s.Set(5, x); e != api.ErrFull {
			t.Errorf("Set(5, %d): %d", x, e)
		}
		if s.Take(x) || s.Step(x) != 0 || s.Waiting() != 0 {
			t.Errorf("at %d", x)
		}
	}
}

// R1: a Shaper that New didn't make is like one of New(0, 0, 0, 0).
func TestUnmade(t *testing.T) {
	s := &shaper.Shaper{}
	steps(t, s, [2]int{0, 1}, [2]int{top, 1})
	if !s.Take(3) || s.Take(3) || !s.Take(4) || s.Waiting() != 0 {
		t.Error("Take")
	}
	s = &shaper.Shaper{}
	right(t, s, 4, 6)
	steps(t, s, [2]int{3, 1}, [2]int{4, 6})
	if !s.Take(5) || s.Take(10) || !s.Take(11) {
		t.Error("Take behind a change")
	}
}

// P8.1, P8.2: all rows of four calls at small times, with short spans, held against the chapter's words.
func TestAllShortRows(t *testing.T) {
	for _, x := range []spans{{2, 0, 2, 1}, {2, 3, 3, 0}, {3, 1, 1, 1}} {
		rows(16, 4, func(row []int) {
			acts := make([]act, len(row))
			for i, n := range row {
				acts[i] = act{n % 4, n / 4, n >= 4}
			}
			same(t, x, acts, 0, 1, 2, 3, 4, 5, 6)
		})
	}
}

// P8.1, P8.2: rows of edges as times and steps, of shapers with edges as spans; all edges as SLOW, QUICK and times.
func TestEdgeRows(t *testing.T) {
	n := noise(61)
	edge := func() int { return edges[n.below(len(edges))] }
	for range 10000 {
		row := make([]act, 6)
		for i := range row {
			row[i] = act{edge(), edge(), n.below(3) > 0}
		}
		same(t, spans{edge(), edge(), edge(), edge()}, row, edges...)
	}
	for _, slow := range edges {
		for _, quick := range edges {
			for _, at := range edges {
				same(t, spans{10, 1, slow, quick}, []act{set(at, 9), take(at), set(at, 11), take(top), set(0, 3), take(0)}, at, 0, top)
			}
		}
	}
}

// P8.1, P8.2: long rows, most times going on, some going back, so many changes that they often are Most.
func TestLongRows(t *testing.T) {
	n := noise(29)
	for round := range 300 {
		scale := 1
		if round%3 == 2 {
			scale = top / 2000
		}
		x := spans{(1 + n.below(12)) * scale, n.below(20) * scale, n.below(60) * scale, n.below(40) * scale}
		now, row := 0, []act{}
		for range 150 {
			now = max(0, now+(n.below(8)-1)*scale)
			row = append(row, act{now, (1 + n.below(12)) * scale, n.below(5) < 3})
		}
		same(t, x, row, 0, now/2, now, now+30*scale)
	}
}

// R5: a shaper hangs on no other one.
func TestOnItsOwn(t *testing.T) {
	n := noise(41)
	a, b := spans{10, 3, 20, 5}, spans{4, 9, 7, 7}
	s, w := a.both()
	o, v := b.both()
	for range 500 {
		x := act{n.below(300), 1 + n.below(15), n.below(2) == 0}
		y := act{n.below(300), 1 + n.below(15), n.below(2) == 0}
		if got, want := x.do(s), x.do(w); got != want {
			t.Fatalf("the first: %s, not %s", got, want)
		}
		if got, want := y.do(o), y.do(v); got != want {
			t.Fatalf("the second: %s, not %s", got, want)
		}
	}
}
