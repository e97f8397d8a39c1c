package bucket_test

import (
	"math"
	"testing"

	"trunkline/api"
	"trunkline/bucket"
)

const top = api.MaxTime

// edges are the numbers at both ends of what times, steps and EARLY are held to, those beyond, and some between.
var edges = []int{math.MinInt, math.MinInt + 1, -top - 1, -top, -1, 0, 1, 2, 10, top / 2, top - 1, top, top + 1, 2 * top, 4 * top, math.MaxInt - 1, math.MaxInt}

// noise makes numbers by a fixed rule, so that every run has the same ones.
type noise uint64

func (n *noise) next() uint64 {
	*n = *n*6364136223846793005 + 1442695040888963407
	return uint64(*n) >> 32
}

func (n *noise) below(most int) int { return int(n.next() % uint64(most)) }

func within(x, least, most int) int {
	if x < least {
		return least
	}
	if x > most {
		return most
	}
	return x
}

// leaking is a bucket by the words of the chapter's section 'Words': a level at a time.
type leaking struct {
	step, early int
	begun       bool
	at, level   int
}

func leak(step, early int) *leaking {
	return &leaking{step: within(step, 1, top), early: within(early, 0, top)}
}

func (l *leaking) there(t int) int { return l.level - (t - l.at) }

func (l *leaking) fits(t int) bool {
	return !l.begun || l.there(within(t, 0, top)) <= l.early
}

func (l *leaking) take(t int) bool {
	if !l.fits(t) {
		return false
	}
	t = within(t, 0, top)
	now := 0
	if l.begun && l.there(t) > 0 {
		now = l.there(t)
	}
	l.begun, l.at, l.level = true, t, now+l.step
	return true
}

func (l *leaking) shown(t int) int {
	if x := l.there(within(t, 0, top)); l.begun && x > 0 {
		return x
	}
	return 0
}

func (l *leaking) due() int {
	if x := l.at + l.level - l.early; l.begun && x > 0 {
		return x
	}
	return 0
}

// timed is a bucket by the words of P5.4: a time from which on a cell would come in time.
type timed struct {
	step, early int
	begun       bool
	inTime      int
}

func (c *timed) take(t int) bool {
	t = within(t, 0, top)
	if !c.begun {
		c.begun, c.inTime = true, t
	}
	if t < c.inTime-c.early {
		return false
	}
	if t > c.inTime {
		c.inTime = t
	}
	c.inTime += c.step
	return true
}

// told is what a bucket says of itself at some times, and when it is due.
type told struct {
	fits  [3]bool
	level [3]int
	due   int
}

func of(b *bucket.Bucket, times [3]int) told {
	x := told{due: b.Due()}
	for i, t := range times {
		x.fits[i], x.level[i] = b.Fits(t), b.Level(t)
	}
	return x
}

func (l *leaking) told(times [3]int) told {
	x := told{due: l.due()}
	for i, t := range times {
		x.fits[i], x.level[i] = l.fits(t), l.shown(t)
	}
	return x
}

// same hands a row of cells to a bucket and to both of the tests' own, and asks all of them ahead of each cell and behind the last.
func same(t *testing.T, step, early int, row ...int) {
	t.Helper()
	b, l := bucket.New(step, early), leak(step, early)
	c := &timed{step: l.step, early: l.early}
	for i, x := range row {
		asked := [3]int{x, row[0], row[len(row)-1]}
		if got, want := of(b, asked), l.told(asked); got != want {
			t.Fatalf("New(%d, %d), behind %d: asked for %d: %+v, not %+v", step, early, row[:i], asked, got, want)
		}
		got, want, by := b.Take(x), l.take(x), c.take(x)
		if got != want || got != by {
			t.Fatalf("New(%d, %d), behind %d: Take(%d): %t, not %t by the level, %t by the time", step, early, row[:i], x, got, want, by)
		}
	}
	asked := [3]int{l.due() - 1, l.due(), 0}
	if got, want := of(b, asked), l.told(asked); got != want {
		t.Fatalf("New(%d, %d), behind %d: asked for %d: %+v, not %+v", step, early, row, asked, got, want)
	}
}

// rows are all rows of so many numbers out of a list.
func rows(list []int, many int, yield func([]int)) {
	row := make([]int, many)
	var lay func(int)
	lay = func(at int) {
		if at == many {
			yield(row)
			return
		}
		for _, x := range list {
			row[at] = x
			lay(at + 1)
		}
	}
	lay(0)
}

func upTo(most int) []int {
	var l []int
	for x := range most {
		l = append(l, x)
	}
	return l
}

// step is a cell that comes, whether it is taken, and what is told behind it.
type step struct {
	at    int
	taken bool
	due   int
	level int
}

func follow(t *testing.T, b *bucket.Bucket, steps ...step) {
	t.Helper()
	for _, x := range steps {
		if got := b.Fits(x.at); got != x.taken {
			t.Errorf("Fits(%d): %t", x.at, got)
		}
		if got := b.Take(x.at); got != x.taken {
			t.Errorf("Take(%d): %t", x.at, got)
		}
		if got := b.Due(); got != x.due {
			t.Errorf("behind %d: Due: %d, not %d", x.at, got, x.due)
		}
		if got := b.Level(x.at); got != x.level {
			t.Errorf("Level(%d): %d, not %d", x.at, got, x.level)
		}
	}
}

// P5.1: the chapter's example, and the document's.
func TestExample(t *testing.T) {
	b := bucket.New(10, 3)
	if !b.Take(0) || b.Fits(6) || !b.Fits(7) {
		t.Error("behind 0")
	}
	if b.Take(6) || !b.Take(7) || b.Fits(16) || !b.Fits(17) || !b.Take(17) {
		t.Error("0, 7, 17")
	}
	follow(t, bucket.New(10, 3), step{0, true, 7, 10}, step{6, false, 7, 4}, step{7, true, 17, 13}, step{17, true, 27, 13})
}

// P5.1, P5.2: rows that are written out: levels that have leaked out and that have not, times that go back.
func TestWrittenOut(t *testing.T) {
	follow(t, bucket.New(5, 0), step{3, true, 8, 5}, step{3, false, 8, 5}, step{7, false, 8, 1}, step{8, true, 13, 5}, step{100, true, 105, 5}, step{0, false, 105, 105})
	follow(t, bucket.New(4, 8), step{0, true, 0, 4}, step{0, true, 0, 8}, step{0, true, 4, 12}, step{0, false, 4, 12}, step{3, false, 4, 9}, step{4, true, 8, 12}, step{20, true, 16, 4})
	follow(t, bucket.New(4, 20), step{10, true, 0, 4}, step{0, true, 0, 18}, step{0, true, 2, 22}, step{1, false, 2, 21}, step{2, true, 6, 24})
	follow(t, bucket.New(1, 0), step{0, true, 1, 1}, step{1, true, 2, 1}, step{1, false, 2, 1}, step{5, true, 6, 1})
}

// P5.1, P5.2: at first any cell fits, none is early, and nothing is kept of being asked.
func TestAtFirst(t *testing.T) {
	for _, s := range edges {
		for _, early := range edges {
			b := bucket.New(s, early)
			for _, x := range edges {
				if !b.Fits(x) || b.Level(x) != 0 || b.Due() != 0 {
					t.Fatalf("New(%d, %d) at %d: %t, %d, %d", s, early, x, b.Fits(x), b.Level(x), b.Due())
				}
			}
			for _, x := range edges {
				first := bucket.New(s, early)
				if !first.Take(x) || first.Level(x) != within(s, 1, top) {
					t.Fatalf("New(%d, %d): the first at %d: level %d", s, early, x, first.Level(x))
				}
			}
		}
	}
}

// P5.1: times below what they are held to are 0, those beyond are MaxTime.
func TestHeldTimes(t *testing.T) {
	for _, x := range edges {
		follow(t, bucket.New(10, 3), step{x, true, within(x, 0, top) + 7, 10})
		b := bucket.New(10, 3)
		b.Take(top / 4)
		if got, want := b.Fits(x), x >= top/4+7; got != want {
			t.Errorf("Fits(%d): %t", x, got)
		}
		if got, want := b.Level(x), within(top/4+10-within(x, 0, top), 0, top); got != want {
			t.Errorf("Level(%d): %d, not %d", x, got, want)
		}
	}
	follow(t, bucket.New(10, 3), step{-9, true, 7, 10}, step{-1, false, 7, 10}, step{7, true, 17, 13})
	follow(t, bucket.New(10, 3), step{top + 9, true, top + 7, 10}, step{top + 17, false, top + 7, 10}, step{math.MaxInt, false, top + 7, 10})
}

// P5.1: steps below 1 are 1, those beyond MaxTime are MaxTime.
func TestHeldSteps(t *testing.T) {
	for _, s := range edges {
		want := within(s, 1, top)
		follow(t, bucket.New(s, 0), step{0, true, want, want}, step{want - 1, false, want, 1}, step{want, true, 2 * want, want})
	}
	follow(t, bucket.New(0, 0), step{5, true, 6, 1}, step{5, false, 6, 1}, step{6, true, 7, 1})
	follow(t, bucket.New(math.MaxInt, 0), step{0, true, top, top}, step{top - 1, false, top, 1}, step{top, true, 2 * top, top})
}

// P5.1: EARLY below 0 is 0, that beyond MaxTime is MaxTime.
func TestHeldEarly(t *testing.T) {
	for _, early := range edges {
		want := within(early, 0, top)
		b := bucket.New(top, early)
		b.Take(top)
		if b.Due() != 2*top-want {
			t.Errorf("EARLY %d: Due: %d, not %d", early, b.Due(), 2*top-want)
		}
	}
	for _, early := range []int{0, -1, math.MinInt} {
		follow(t, bucket.New(10, early), step{0, true, 10, 10}, step{9, false, 10, 1}, step{10, true, 20, 10})
	}
	for _, early := range []int{top, top + 1, math.MaxInt} {
		follow(t, bucket.New(top, early), step{0, true, 0, top}, step{0, true, top, 2 * top}, step{top - 1, false, top, top + 1})
	}
}

// P5.2: when it is due may lie beyond MaxTime, where no time comes.
func TestDueBeyondMaxTime(t *testing.T) {
	b := bucket.New(top, top)
	follow(t, b, step{top, true, top, top}, step{top, true, 2 * top, 2 * top}, step{top, false, 2 * top, 2 * top}, step{math.MaxInt, false, 2 * top, 2 * top}, step{0, false, 2 * top, 3 * top})
	if b.Fits(2*top) || b.Fits(b.Due()) {
		t.Error("a time beyond MaxTime fits")
	}
	follow(t, bucket.New(1, 0), step{top, true, top + 1, 1}, step{top + 1, false, top + 1, 1})
}

// P5.2: the tick ahead of Due and Due itself; no earlier one fits.
func TestDue(t *testing.T) {
	n := noise(5)
	for range 300 {
		b := bucket.New(1+n.below(20), n.below(40))
		for range 20 {
			b.Take(n.below(200))
			due := 0
			for due < 1000 && !b.Fits(due) {
				due++
			}
			if b.Due() != due {
				t.Fatalf("Due: %d, but %d fits first", b.Due(), due)
			}
			for x := due; x < due+50; x++ {
				if !b.Fits(x) {
					t.Fatalf("due at %d, and %d doesn't fit", due, x)
				}
			}
		}
	}
}

// P5.1, P5.2: the level leaks by 1 with each tick, and was so much more at each tick earlier, down to 0 and not below.
func TestLevelLeaks(t *testing.T) {
	b := bucket.New(10, 30)
	for range 3 {
		b.Take(50)
	}
	for x := range 120 {
		if got, want := b.Level(x), within(80-x, 0, 80); got != want {
			t.Errorf("Level(%d): %d, not %d", x, got, want)
		}
	}
	b.Take(100) // 20 below 0: no such room is kept
	if b.Level(100) != 10 || b.Level(0) != 110 {
		t.Errorf("from below 0: %d, %d", b.Level(100), b.Level(0))
	}
}

// P5.1, P5.2, P5.4: all short rows of small times, going back too, held against the level's words and the time's.
func TestAllShortRows(t *testing.T) {
	for s := 1; s <= 4; s++ {
		for early := range 7 {
			rows(upTo(7), 4, func(row []int) { same(t, s, early, row...) })
		}
	}
}

// P5.1, P5.2, P5.4: all rows of three edges, with all steps and EARLY that are edges.
func TestAllEdges(t *testing.T) {
	for _, s := range edges {
		for _, early := range edges {
			rows(edges, 3, func(row []int) { same(t, s, early, row...) })
		}
	}
}

// P5.1, P5.2, P5.4: long rows, most times going on, some going back; small steps, and the greatest.
func TestLongRows(t *testing.T) {
	n := noise(17)
	for round := range 400 {
		scale := 1
		if round%2 == 1 {
			scale = top / 1000
		}
		s, early := (1+n.below(30))*scale, n.below(90)*scale
		now, row := 0, []int{}
		for range 100 {
			now += (n.below(40) - 4) * scale
			row = append(row, now)
		}
		same(t, s, early, row...)
	}
}

// bounded holds what is taken of a row against P5.3: no more than 1 and (L and EARLY) / STEP lie within any L ticks. Spans from one taken cell to another are enough: no other one has more cells in fewer ticks.
func bounded(t *testing.T, s, early int, row []int) {
	t.Helper()
	b := bucket.New(s, early)
	var taken []int
	for _, x := range row {
		if b.Take(x) {
			taken = append(taken, x)
		}
	}
	for i := range taken {
		for j := i; j < len(taken); j++ {
			if most := 1 + (taken[j]-taken[i]+early)/s; j-i+1 > most {
				t.Fatalf("step %d, EARLY %d, %d: from %d to %d lie %d, not %d at most", s, early, row, taken[i], taken[j], j-i+1, most)
			}
		}
	}
}

// P5.3: rows of all sorts, as times go on, with many cells of one tick among them.
func TestNoMoreThanAllowed(t *testing.T) {
	n := noise(23)
	for range 3000 {
		s, early := 1+n.below(12), n.below(60)
		row, now := []int{}, n.below(100)
		for range 80 {
			now += n.below(2) * n.below(2*s)
			row = append(row, now)
		}
		bounded(t, s, early, row)
	}
}

// P5.3: the bound is met where cells come at every tick, so that no fewer are taken either.
func TestAsManyAsAllowed(t *testing.T) {
	for s := 1; s <= 9; s++ {
		for early := range 40 {
			b, taken := bucket.New(s, early), 0
			for x := range 100 {
				for taken < 1000 && b.Take(x) {
					taken++
				}
				if want := 1 + (x+early)/s; taken != want {
					t.Fatalf("step %d, EARLY %d: %d to the tick %d, not %d", s, early, taken, x, want)
				}
			}
		}
	}
}

// P5.3: cells that are at least STEP ticks from each other all fit.
func TestSpacedCellsFit(t *testing.T) {
	n := noise(29)
	for range 300 {
		s := 1 + n.below(1000)
		for _, early := range []int{0, 1, n.below(5000), top} {
			b, now := bucket.New(s, early), n.below(1000)
			for range 60 {
				if !b.Take(now) {
					t.Fatalf("step %d, EARLY %d: %d doesn't fit, due at %d", s, early, now, b.Due())
				}
				now += s + n.below(2)*n.below(100)
			}
		}
	}
	follow(t, bucket.New(top, 0), step{0, true, top, top}, step{top, true, 2 * top, top})
	follow(t, bucket.New(top/2, 0), step{0, true, top / 2, top / 2}, step{top / 2, true, top, top / 2}, step{top, true, 3 * (top / 2), top / 2})
}

// P5.1, P5.3: being asked changes nothing, nor does a cell that doesn't fit.
func TestWhatDoesntFitChangesNothing(t *testing.T) {
	n := noise(31)
	for range 300 {
		s, early := 1+n.below(20), n.below(30)
		b, calm := bucket.New(s, early), bucket.New(s, early)
		for range 40 {
			x := n.below(300)
			was := of(b, edgesOf(x))
			b.Fits(x)
			b.Level(x)
			b.Due()
			if !b.Take(x) {
				if got := of(b, edgesOf(x)); got != was {
					t.Fatalf("Take(%d) was false, and changed %+v to %+v", x, was, got)
				}
				continue
			}
			if !calm.Take(x) {
				t.Fatalf("%d fits with cells that don't ahead of it, and not without", x)
			}
		}
		if of(b, edgesOf(99)) != of(calm, edgesOf(99)) {
			t.Fatalf("with cells that don't fit: %+v, without: %+v", of(b, edgesOf(99)), of(calm, edgesOf(99)))
		}
	}
}

func edgesOf(x int) [3]int { return [3]int{x, 0, top} }

// P5.2, R3: a copy is like it, and what either takes the other doesn't know of.
func TestCopy(t *testing.T) {
	for _, early := range []int{0, 3, 50} {
		b := bucket.New(10, early)
		alike := func(a, c *bucket.Bucket) {
			t.Helper()
			if a == c {
				t.Fatal("the same one")
			}
			for x := range 100 {
				if of(a, edgesOf(x)) != of(c, edgesOf(x)) {
					t.Fatalf("EARLY %d: %+v, the copy %+v", early, of(a, edgesOf(x)), of(c, edgesOf(x)))
				}
			}
		}
		alike(b, b.Copy())
		b.Take(5)
		c := b.Copy()
		alike(b, c)
		was := of(b, edgesOf(9))
		if !c.Take(40) || !c.Copy().Take(60) || of(b, edgesOf(9)) != was {
			t.Errorf("a copy took, and changed %+v to %+v", was, of(b, edgesOf(9)))
		}
		was = of(c, edgesOf(9))
		if !b.Take(80) || of(c, edgesOf(9)) != was {
			t.Errorf("one took, and changed its copy from %+v to %+v", was, of(c, edgesOf(9)))
		}
		follow(t, c, step{100, true, within(110-early, 0, top), 10})
	}
}

// P5.2: a copy keeps its step and EARLY.
func TestCopyGoesOn(t *testing.T) {
	b := bucket.New(10, 3)
	b.Take(0)
	follow(t, b.Copy(), step{6, false, 7, 4}, step{7, true, 17, 13}, step{17, true, 27, 13})
	follow(t, b, step{6, false, 7, 4}, step{7, true, 17, 13}, step{17, true, 27, 13})
	follow(t, b.Copy().Copy(), step{26, false, 27, 4}, step{27, true, 37, 13})
}

// P5.2, R1: a nil Bucket.
func TestNil(t *testing.T) {
	var b *bucket.Bucket
	for _, x := range edges {
		if b.Fits(x) || b.Take(x) || b.Level(x) != 0 || b.Due() != 0 || b.Copy() != nil {
			t.Errorf("a nil one at %d: %t, %t, %d, %d, %v", x, b.Fits(x), b.Take(x), b.Level(x), b.Due(), b.Copy())
		}
	}
}

// R1, P5.3: one that New didn't make has the step and EARLY that 0 is held to.
func TestZeroValue(t *testing.T) {
	follow(t, &bucket.Bucket{}, step{0, true, 1, 1}, step{0, false, 1, 1}, step{1, true, 2, 1}, step{9, true, 10, 1})
}

// R5: no bucket hears of another one.
func TestBucketsAreApart(t *testing.T) {
	one, other := bucket.New(10, 3), bucket.New(10, 3)
	one.Take(50)
	if of(other, edgesOf(5)) != of(bucket.New(10, 3), edgesOf(5)) {
		t.Errorf("another one: %+v", of(other, edgesOf(5)))
	}
	follow(t, other, step{0, true, 7, 10})
	if one.Due() != 57 {
		t.Errorf("the first: due at %d", one.Due())
	}
}
