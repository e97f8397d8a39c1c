package police_test

import (
	"math"
	"slices"
	"testing"

	"trunkline/api"
	"trunkline/contract"
	"trunkline/police"
)

const (
	top  = api.MaxTime
	long = contract.Longest
)

var (
	seven = []int{api.Cbr1, api.Vbr1, api.Vbr2, api.Vbr3, api.Abr, api.Ubr1, api.Ubr2}
	vbr   = []int{api.Vbr1, api.Vbr2, api.Vbr3}
)

// noise makes numbers by a fixed rule, so that every run has the same ones.
type noise uint64

func (n *noise) below(most int) int {
	*n = *n*6364136223846793005 + 1442695040888963407
	return int((uint64(*n) >> 32) % uint64(most))
}

// of is a contract of a kind that can be: the Vbr kinds have all four spans, the others the first two.
func of(kind, peak, early, whole, burst int) api.Contract {
	if slices.Contains(vbr, kind) {
		return api.Contract{Kind: kind, Peak: peak, Early: early, Whole: whole, Burst: burst}
	}
	return api.Contract{Kind: kind, Peak: peak, Early: early}
}

// spacing is how far cells must be from each other for all of them to pass.
func spacing(c api.Contract) int { return max(c.Peak, c.Whole) }

func policer(t *testing.T, c api.Contract) *police.Policer {
	t.Helper()
	p, e := police.New(c)
	if p == nil || e != api.OK {
		t.Fatalf("New(%+v): %v, %d", c, p, e)
	}
	return p
}

// level is a bucket by the words of layer 5.
type level struct {
	step, early int
	begun       bool
	at, high    int
}

func (l *level) there(t int) int { return l.high - (t - l.at) }
func (l *level) fits(t int) bool { return !l.begun || l.there(t) <= l.early }

func (l *level) take(t int) {
	now := 0
	if l.begun {
		now = max(0, l.there(t))
	}
	l.begun, l.at, l.high = true, t, now+l.step
}

func (l *level) due() int {
	if !l.begun {
		return 0
	}
	return max(0, l.at+l.high-l.early)
}

// words is a policer by the chapter's words, written out kind by kind.
type words struct {
	kind        int
	peak, whole level
	counts      [4]int
}

func wordsOf(c api.Contract) *words {
	return &words{
		kind:  c.Kind,
		peak:  level{step: c.Peak, early: c.Early},
		whole: level{step: c.Whole, early: c.Burst + c.Early},
	}
}

// second tells whether such a cell asks a second rule.
func (w *words) second(clp int) bool {
	return w.kind == api.Vbr1 || (w.kind == api.Vbr2 || w.kind == api.Vbr3) && clp == 0
}

func (w *words) take(t, clp int) int {
	v := w.verdict(min(max(t, 0), top), clp)
	w.counts[0]++
	w.counts[v]++
	return v
}

func (w *words) verdict(t, clp int) int {
	if !w.peak.fits(t) {
		return api.Drop
	}
	if w.second(clp) && !w.whole.fits(t) {
		if w.kind != api.Vbr3 {
			return api.Drop
		}
		w.peak.take(t)
		return api.Tag
	}
	w.peak.take(t)
	if w.second(clp) {
		w.whole.take(t)
	}
	if w.kind == api.Ubr2 && clp == 0 {
		return api.Tag
	}
	return api.Pass
}

func (w *words) due(clp int) int {
	if !w.second(clp) {
		return w.peak.due()
	}
	return max(w.peak.due(), w.whole.due())
}

// cell is one that comes.
type cell struct{ t, clp int }

// told is what a policer says of itself.
type told struct {
	counts                 [4]int
	due0, due1, due2, due3 int
}

func say(p *police.Policer) told {
	return told{p.Counts(), p.Due(0), p.Due(1), p.Due(-1), p.Due(math.MaxInt)}
}

func (w *words) say() told {
	return told{w.counts, w.due(0), w.due(1), w.due(-1), w.due(math.MaxInt)}
}

// same hands a row of cells to a policer and to the tests' own, and asks both behind each cell.
func same(t *testing.T, c api.Contract, row []cell) {
	t.Helper()
	p, w := policer(t, c), wordsOf(c)
	if got := say(p); got != w.say() {
		t.Fatalf("%+v, at first: %+v, not %+v", c, got, w.say())
	}
	for i, x := range row {
		if got, want := p.Take(x.t, x.clp), w.take(x.t, x.clp); got != want {
			t.Fatalf("%+v, behind %v: Take(%d, %d): %d, not %d", c, row[:i], x.t, x.clp, got, want)
		}
		if got := say(p); got != w.say() {
			t.Fatalf("%+v, behind %v: %+v, not %+v", c, row[:i+1], got, w.say())
		}
	}
}

// rows hands on all rows of so many cells out of a list.
func rows(list []cell, many int, yield func([]cell)) {
	row := make([]cell, many)
	var lay func(int)
	lay = func(at int) {
		if at == many {
			yield(row)
			return
		}
		for _, x := range list {
			row[at] = x
			lay(at + 1)
		}
	}
	lay(0)
}

// cellsOf are all cells of some times and loss priorities.
func cellsOf(times, clps []int) []cell {
	var l []cell
	for _, t := range times {
		for _, clp := range clps {
			l = append(l, cell{t, clp})
		}
	}
	return l
}

// step is a cell, its verdict, and when the next one of loss priority 0, and of 1, is due.
type step struct{ t, clp, want, due0, due1 int }

// follow hands cells to a policer, and holds what it says, and how it counts, against what is written.
func follow(t *testing.T, c api.Contract, list ...step) {
	t.Helper()
	p := policer(t, c)
	var counts [4]int
	for i, x := range list {
		counts[0]++
		counts[x.want]++
		if got := p.Take(x.t, x.clp); got != x.want {
			t.Errorf("%+v, cell %d: Take(%d, %d): %d, not %d", c, i, x.t, x.clp, got, x.want)
		}
		if p.Due(0) != x.due0 || p.Due(1) != x.due1 {
			t.Errorf("%+v, behind cell %d: due at %d, %d, not at %d, %d", c, i, p.Due(0), p.Due(1), x.due0, x.due1)
		}
		if p.Counts() != counts {
			t.Errorf("%+v, behind cell %d: Counts: %v, not %v", c, i, p.Counts(), counts)
		}
	}
}

// P7.1: the chapter's example.
func TestExample(t *testing.T) {
	c := api.Contract{Kind: api.Vbr3, Peak: 1, Whole: 10, Burst: 10}
	follow(t, c,
		step{0, 0, api.Pass, 1, 1}, step{1, 0, api.Pass, 10, 2},
		step{2, 0, api.Tag, 10, 3}, step{3, 1, api.Pass, 10, 4})
}

// The numbers of the verdicts, which are the places in Counts.
func TestVerdicts(t *testing.T) {
	if api.Pass != 1 || api.Tag != 2 || api.Drop != 3 {
		t.Error(api.Pass, api.Tag, api.Drop)
	}
}

// P7.1: kinds with one rule: a cell just as early as that allows, and one tick earlier, of either loss priority.
func TestOneRule(t *testing.T) {
	for _, c := range []api.Contract{
		of(api.Cbr1, 5, 1, 0, 0), of(api.Abr, 5, 1, 0, 0), of(api.Ubr1, 5, 1, 0, 0),
		{Kind: api.Abr, Peak: 5, Early: 1, Least: 50},
	} {
		for clp := range 2 {
			follow(t, c,
				step{0, clp, api.Pass, 4, 4}, step{3, clp, api.Drop, 4, 4}, step{3, 1 - clp, api.Drop, 4, 4},
				step{4, 1 - clp, api.Pass, 9, 9}, step{8, clp, api.Drop, 9, 9}, step{9, clp, api.Pass, 14, 14},
				step{100, clp, api.Pass, 104, 104})
		}
	}
}

// P7.1: Ubr2 tags what has loss priority 0, and passes what has 1; both take of the bucket.
func TestAlwaysTagged(t *testing.T) {
	c := of(api.Ubr2, 5, 1, 0, 0)
	follow(t, c,
		step{0, 0, api.Tag, 4, 4}, step{3, 0, api.Drop, 4, 4}, step{3, 1, api.Drop, 4, 4},
		step{4, 1, api.Pass, 9, 9}, step{8, 1, api.Drop, 9, 9}, step{8, 0, api.Drop, 9, 9},
		step{9, 0, api.Tag, 14, 14}, step{50, 1, api.Pass, 54, 54})
	for _, kind := range seven {
		if got := policer(t, of(kind, 5, 1, 9, 0)).Take(0, 0); (got == api.Tag) != (kind == api.Ubr2) {
			t.Errorf("the first cell of the kind %d: %d", kind, got)
		}
	}
}

// P7.1: Vbr1 has both rules for all cells: what the second drops has not taken of the first either.
func TestVbr1(t *testing.T) {
	c := of(api.Vbr1, 5, 1, 20, 15)
	for clp := range 2 {
		follow(t, c,
			step{0, clp, api.Pass, 4, 4}, step{3, clp, api.Drop, 4, 4}, step{4, clp, api.Pass, 24, 24},
			step{23, 0, api.Drop, 24, 24}, step{23, 1, api.Drop, 24, 24}, step{24, 1 - clp, api.Pass, 44, 44},
			step{25, clp, api.Drop, 44, 44}, step{44, clp, api.Pass, 64, 64})
	}
	// At 4 the first rule's bucket would have room: had it taken what the second rule drops there, it would be due at 9.
	follow(t, of(api.Vbr1, 5, 1, 6, 0), step{0, 0, api.Pass, 5, 5}, step{4, 0, api.Drop, 5, 5}, step{5, 0, api.Pass, 11, 11})
}

// P7.1: Vbr2 drops by the second rule what has loss priority 0 alone, and nothing else takes of it.
func TestVbr2(t *testing.T) {
	c := of(api.Vbr2, 5, 1, 20, 15)
	follow(t, c,
		step{0, 0, api.Pass, 4, 4}, step{4, 0, api.Pass, 24, 9}, step{9, 0, api.Drop, 24, 9},
		step{9, 1, api.Pass, 24, 14}, step{13, 1, api.Drop, 24, 14}, step{14, 1, api.Pass, 24, 19},
		step{23, 0, api.Drop, 24, 19}, step{24, 0, api.Pass, 44, 28}, step{43, 0, api.Drop, 44, 28},
		step{43, 1, api.Pass, 47, 47}, step{46, 0, api.Drop, 47, 47}, step{47, 0, api.Pass, 64, 52})
}

// P7.1: Vbr3 tags what Vbr2 would drop by the second rule: it takes of the first bucket, not of the second.
func TestVbr3(t *testing.T) {
	c := of(api.Vbr3, 5, 1, 20, 15)
	follow(t, c,
		step{0, 0, api.Pass, 4, 4}, step{4, 0, api.Pass, 24, 9}, step{8, 0, api.Drop, 24, 9},
		step{9, 0, api.Tag, 24, 14}, step{13, 0, api.Drop, 24, 14}, step{13, 1, api.Drop, 24, 14},
		step{14, 1, api.Pass, 24, 19}, step{23, 0, api.Tag, 27, 27}, step{26, 0, api.Drop, 27, 27},
		step{27, 0, api.Pass, 44, 32}, step{43, 0, api.Tag, 47, 47}, step{47, 0, api.Pass, 64, 52})
	// Just as early as the second rule allows: not tagged.
	follow(t, c, step{0, 0, api.Pass, 4, 4}, step{4, 0, api.Pass, 24, 9}, step{24, 0, api.Pass, 44, 28})
}

// P7.1: a cell that one rule would tag, and another drop, is dropped, and takes of no bucket.
func TestDropComesFirst(t *testing.T) {
	follow(t, of(api.Vbr3, 5, 0, 20, 0),
		step{0, 0, api.Pass, 20, 5}, step{4, 0, api.Drop, 20, 5}, step{5, 0, api.Tag, 20, 10}, step{9, 0, api.Drop, 20, 10}, step{10, 1, api.Pass, 20, 15}, step{20, 0, api.Pass, 40, 25})
}

// P7.1: cells of loss priority 1 take nothing of a rule that is Zero, however many come.
func TestZeroRuleHearsOfNoOne(t *testing.T) {
	for _, kind := range []int{api.Vbr2, api.Vbr3} {
		p := policer(t, of(kind, 1, 0, 100, 0))
		for x := range 500 {
			if got := p.Take(x, 1); got != api.Pass {
				t.Fatalf("the kind %d, at %d: %d", kind, x, got)
			}
		}
		if got := p.Take(500, 0); got != api.Pass || p.Due(0) != 600 || p.Due(1) != 501 {
			t.Errorf("the kind %d: %d, due at %d, %d", kind, got, p.Due(0), p.Due(1))
		}
	}
}

// P7.1: Counts are 0 at first; asking for anything counts nothing.
func TestCounts(t *testing.T) {
	for _, kind := range seven {
		p := policer(t, of(kind, 5, 1, 20, 15))
		for range 3 {
			if p.Counts() != [4]int{} || p.Due(0) != 0 || p.Due(1) != 0 {
				t.Errorf("the kind %d, at first: %v, %d, %d", kind, p.Counts(), p.Due(0), p.Due(1))
			}
		}
		n := p.Counts()
		n[0] = 9
		if p.Counts() != [4]int{} {
			t.Error("the answer is the policer's own")
		}
	}
	p := policer(t, of(api.Vbr3, 1, 0, 10, 10))
	for x := range 100 {
		p.Take(x, 0)
		p.Take(x, 1)
	}
	// At each tick the second cell is dropped. Of the others the second rule lets the first two, and one each ten ticks, pass.
	if got := p.Counts(); got != [4]int{200, 11, 89, 100} {
		t.Errorf("Counts: %v", got)
	}
}

// P7.1: the tick ahead of Due isn't passed as it is, Due is; and neither asking nor being due changes anything.
func TestDue(t *testing.T) {
	n := noise(3)
	for range 400 {
		kind := seven[n.below(7)]
		peak := 1 + n.below(9)
		c := of(kind, peak, n.below(12), peak+n.below(30), n.below(50))
		var row []cell
		for range 1 + n.below(12) {
			row = append(row, cell{n.below(60), n.below(2)})
		}
		behind := func() *police.Policer {
			p := policer(t, c)
			for _, x := range row {
				p.Take(x.t, x.clp)
			}
			return p
		}
		for clp := range 2 {
			fine := api.Pass
			if kind == api.Ubr2 && clp == 0 {
				fine = api.Tag
			}
			due := behind().Due(clp)
			if got := behind().Take(due, clp); got != fine {
				t.Fatalf("%+v, behind %v: due at %d, and there %d", c, row, due, got)
			}
			if got := behind().Take(due-1, clp); due > 0 && (got == api.Pass || kind != api.Vbr3 && got != api.Drop) {
				t.Fatalf("%+v, behind %v: due at %d, and ahead of it %d", c, row, due, got)
			}
		}
	}
}

// spansOf are some contracts of a kind with small spans.
func spansOf(kind int) []api.Contract {
	var l []api.Contract
	for _, s := range [][4]int{{1, 0, 1, 0}, {1, 0, 3, 2}, {1, 2, 4, 3}, {2, 0, 2, 0}, {2, 0, 3, 0}, {2, 1, 3, 0}, {2, 1, 5, 6}, {3, 2, 4, 9}, {3, 0, 5, 1}} {
		l = append(l, of(kind, s[0], s[1], s[2], s[3]))
	}
	if kind == api.Abr {
		l = append(l, api.Contract{Kind: kind, Peak: 2, Early: 1, Least: 2})
	}
	return l
}

// P7.1: all short rows of small times, going back too, of either loss priority, held against the chapter's words.
func TestAllShortRows(t *testing.T) {
	list := cellsOf([]int{0, 1, 2, 3, 5}, []int{0, 1})
	for _, kind := range seven {
		for _, c := range spansOf(kind) {
			rows(list, 4, func(row []cell) { same(t, c, row) })
		}
	}
}

// P7.1, R1: rows of the least and the greatest times and loss priorities, with the least and the greatest spans.
func TestEdges(t *testing.T) {
	times := []int{math.MinInt, -1, 0, 1, long, top - 1, top, top + 1, math.MaxInt}
	clps := []int{math.MinInt, -1, 0, 1, 2, math.MaxInt}
	list := cellsOf(times, clps)
	for _, kind := range seven {
		for _, s := range [][4]int{{1, 0, 1, 0}, {1, long, long, long}, {long, 0, long, 0}, {long, long, long, long}, {1, 1, 2, 1}} {
			rows(list, 2, func(row []cell) { same(t, of(kind, s[0], s[1], s[2], s[3]), row) })
		}
	}
}

// P7.1: long rows, most times going on, some going back; small spans, and great ones.
func TestLongRows(t *testing.T) {
	n := noise(17)
	for round := range 1400 {
		scale := 1
		if round%2 == 1 {
			scale = long / 1000
		}
		peak := 1 + n.below(12)
		c := of(seven[round%7], peak*scale, n.below(20)*scale, (peak+n.below(40))*scale, n.below(200)*scale)
		now, row := 0, []cell{}
		for range 100 {
			now += (n.below(2*peak+4) - 2) * scale
			row = append(row, cell{now, n.below(3)})
		}
		same(t, c, row)
	}
}

// P7.1: any loss priority but 0 is like 1.
func TestOtherLossPriorities(t *testing.T) {
	for _, clp := range []int{math.MinInt, -2, -1, 2, 3, 256, 1 << 32, math.MaxInt} {
		n := noise(7)
		for _, kind := range seven {
			c := of(kind, 2, 1, 9, 12)
			p, q := policer(t, c), policer(t, c)
			for x := range 60 {
				is, like := 0, 0
				if n.below(2) == 1 {
					is, like = clp, 1
				}
				if got, want := p.Take(x, is), q.Take(x, like); got != want {
					t.Fatalf("%+v: Take(%d, %d): %d, not %d", c, x, is, got, want)
				}
				if p.Due(clp) != q.Due(1) || say(p) != say(q) {
					t.Fatalf("%+v, loss priority %d: %+v, not %+v", c, clp, say(p), say(q))
				}
			}
		}
	}
}

// noMore holds some times against P7.2: no more than 1 and (L and early) / step lie within any L ticks. Spans from one of the times to another are enough: no other one has more in fewer ticks.
func noMore(t *testing.T, c api.Contract, what string, times []int, step, early int) {
	t.Helper()
	slices.Sort(times)
	for i := range times {
		for j := i; j < len(times); j++ {
			if most := 1 + (times[j]-times[i]+early)/step; j-i+1 > most {
				t.Fatalf("%+v, %s: %d lie from %d to %d, not %d at most", c, what, j-i+1, times[i], times[j], most)
			}
		}
	}
}

// bounded holds what becomes of a row against P7.2.
func bounded(t *testing.T, c api.Contract, row []cell) {
	t.Helper()
	p := policer(t, c)
	var through, zero []int
	for _, x := range row {
		v := p.Take(x.t, x.clp)
		if v != api.Drop {
			through = append(through, x.t)
		}
		if v == api.Pass && x.clp == 0 {
			zero = append(zero, x.t)
		}
	}
	noMore(t, c, "not dropped", through, c.Peak, c.Early)
	switch c.Kind {
	case api.Vbr1:
		noMore(t, c, "not dropped", through, c.Whole, c.Burst+c.Early)
	case api.Vbr2, api.Vbr3:
		noMore(t, c, "passed with loss priority 0", zero, c.Whole, c.Burst+c.Early)
	}
}

// P7.2: rows of all sorts, with many cells at one tick among them, and some that go back.
func TestNoMoreThanAllowed(t *testing.T) {
	n := noise(23)
	for round := range 3500 {
		peak := 1 + n.below(6)
		c := of(seven[round%7], peak, n.below(20), peak+n.below(20), n.below(60))
		back := n.below(2)
		row, now := []cell{}, 50+n.below(100)
		for range 80 {
			now += n.below(2)*n.below(2*peak) - back*n.below(2)
			row = append(row, cell{now, n.below(2)})
		}
		bounded(t, c, row)
	}
}

// P7.2: the bound is met where cells come at every tick, at the first one (L 0) too, so that no fewer go through either.
func TestAsManyAsAllowed(t *testing.T) {
	for _, kind := range seven {
		for peak := 1; peak <= 5; peak++ {
			for early := range 12 {
				p, through := policer(t, of(kind, peak, early, peak, 0)), 0
				for x := range 40 {
					for through < 1000 && p.Take(x, 0) != api.Drop {
						through++
					}
					if want := 1 + (x+early)/peak; through != want {
						t.Fatalf("the kind %d, Peak %d, Early %d: %d to the tick %d, not %d", kind, peak, early, through, x, want)
					}
				}
			}
		}
	}
}

// P7.2: the second bound is met, too, where the first one is wide: by what passes with loss priority 0, and by Vbr1's cells of both.
func TestAsManyAsAllowedOnTheWhole(t *testing.T) {
	for _, kind := range vbr {
		for whole := 1; whole <= 9; whole++ {
			for burst := range 25 {
				p, passed := policer(t, of(kind, 1, 0, whole, burst)), 0
				for x := range 60 {
					clp := 0
					if kind == api.Vbr1 {
						clp = x % 2
					}
					if p.Take(x, clp) == api.Pass {
						passed++
					}
					// One cell comes at each tick, so no more than x + 1 can pass.
					if want := min(x+1, 1+(x+burst)/whole); passed != want {
						t.Fatalf("the kind %d, Whole %d, Burst %d: %d to the tick %d, not %d", kind, whole, burst, passed, x, want)
					}
				}
			}
		}
	}
}

// P7.2: Most (layer 6) cells of loss priority 0 pass at the peak, and the next one doesn't.
func TestMostAtThePeak(t *testing.T) {
	for _, kind := range vbr {
		for _, s := range [][3]int{{2, 10, 40}, {2, 10, 39}, {1, 2, 7}, {3, 100, 0}, {3, 100, 97}} {
			c := of(kind, s[0], 0, s[1], s[2])
			p, many := policer(t, c), 0
			for many < 100 && p.Take(many*c.Peak, 0) == api.Pass {
				many++
			}
			if many != contract.Most(c) {
				t.Errorf("%+v: %d pass at the peak, not %d", c, many, contract.Most(c))
			}
		}
	}
}

// P7.3: cells that are spaced as the contract says pass, just so or wider, and are tagged of Ubr2 with loss priority 0.
func TestSpacedCellsPass(t *testing.T) {
	n := noise(29)
	for round := range 700 {
		peak := 1 + n.below(1000)
		c := of(seven[round%7], peak, n.below(3)*n.below(2000), peak+n.below(3)*n.below(1000), n.below(2)*n.below(5000))
		p, now := policer(t, c), n.below(1000)
		for range 60 {
			clp := n.below(3)
			want := api.Pass
			if c.Kind == api.Ubr2 && clp == 0 {
				want = api.Tag
			}
			if got := p.Take(now, clp); got != want {
				t.Fatalf("%+v: Take(%d, %d): %d, not %d", c, now, clp, got, want)
			}
			now += spacing(c) + n.below(2)*n.below(100)
		}
	}
}

// P7.3: one tick closer than that, and with nothing early, the second cell doesn't pass.
func TestOneTickTooClose(t *testing.T) {
	for _, kind := range seven {
		for _, s := range [][2]int{{7, 7}, {7, 20}, {1, 9}, {long, long}, {1, long}} {
			c := of(kind, s[0], 0, s[1], 0)
			second := api.Drop
			if kind == api.Vbr3 && c.Whole > c.Peak {
				second = api.Tag
			}
			for _, from := range []int{0, 100, top - long} {
				p := policer(t, c)
				first := p.Take(from, 0)
				if got := p.Take(from+spacing(c)-1, 0); got != second {
					t.Errorf("%+v: from %d, one tick too close: %d", c, from, got)
				}
				p = policer(t, c)
				if p.Take(from, 0) != first || p.Take(from+spacing(c), 0) != first || first == api.Drop {
					t.Errorf("%+v: from %d, just so: %d", c, from, first)
				}
			}
		}
	}
}

// P7.4: without the cells that are dropped all others have the same verdicts, and dues are the same.
func TestWhatIsDroppedChangesNothing(t *testing.T) {
	n := noise(31)
	for round := range 1400 {
		peak := 1 + n.below(6)
		c := of(seven[round%7], peak, n.below(10), peak+n.below(20), n.below(40))
		p, calm := policer(t, c), policer(t, c)
		now := 20
		for range 60 {
			now += n.below(peak+1) - n.below(2)
			clp := n.below(2)
			was := say(p)
			v := p.Take(now, clp)
			if v == api.Drop {
				got := say(p)
				was.counts[0]++
				was.counts[api.Drop]++
				if got != was {
					t.Fatalf("%+v: a cell was dropped at %d: %+v, not %+v", c, now, got, was)
				}
				continue
			}
			if got := calm.Take(now, clp); got != v {
				t.Fatalf("%+v: Take(%d, %d): %d with what is dropped, %d without", c, now, clp, v, got)
			}
		}
		if calm.Counts()[api.Drop] != 0 || p.Due(0) != calm.Due(0) || p.Due(1) != calm.Due(1) {
			t.Fatalf("%+v: %+v with what is dropped, %+v without", c, say(p), say(calm))
		}
	}
}

// P7.4: cells that are put between others, and would be dropped there, change none of their verdicts.
func TestMoreThatIsDropped(t *testing.T) {
	for _, kind := range seven {
		c := of(kind, 3, 1, 8, 9)
		p, crowded := policer(t, c), policer(t, c)
		for x := range 100 {
			clp := x / 7 % 2
			if got, want := crowded.Take(x, clp), p.Take(x, clp); got != want {
				t.Fatalf("%+v: Take(%d, %d): %d, not %d", c, x, clp, got, want)
			}
			// Whatever comes ahead of the first rule's due is dropped, of either loss priority.
			for ahead := max(0, x-3); ahead < crowded.Due(1); ahead++ {
				if crowded.Take(ahead, 0) != api.Drop || crowded.Take(ahead, 1) != api.Drop {
					t.Fatalf("%+v: at %d, ahead of %d, something isn't dropped", c, ahead, crowded.Due(1))
				}
			}
		}
	}
}

// P7.1, R2: what Right (layer 6) refuses has its error, and there is no policer.
func TestWrongContracts(t *testing.T) {
	spans := []int{math.MinInt, -1, 0, 1, 2, long, long + 1, math.MaxInt}
	right, wrong := 0, map[api.Errno]int{}
	for _, kind := range append([]int{math.MinInt, -1, 0, 8, 257, math.MaxInt}, seven...) {
		for i := range 8 * 8 * 8 * 8 * 8 {
			c := api.Contract{Kind: kind, Peak: spans[i%8], Early: spans[i/8%8], Whole: spans[i/64%8], Burst: spans[i/512%8], Least: spans[i/4096]}
			p, e := police.New(c)
			if e != contract.Right(c) || (p != nil) != (e == api.OK) {
				t.Fatalf("New(%+v): %v, %d", c, p, e)
			}
			if e == api.OK {
				right++
			}
			wrong[e]++
		}
	}
	if right == 0 || wrong[api.ErrKind] != 6<<15 || wrong[api.ErrRate] == 0 {
		t.Errorf("%d can be; %v", right, wrong)
	}
	for _, x := range []struct {
		c    api.Contract
		want api.Errno
	}{
		{api.Contract{}, api.ErrKind}, {api.Contract{Kind: 8, Peak: 1}, api.ErrKind}, {api.Contract{Kind: api.Cbr1}, api.ErrRate},
		{of(api.Cbr1, 1, -1, 0, 0), api.ErrRate}, {of(api.Vbr1, 5, 0, 4, 0), api.ErrRate}, {of(api.Ubr2, long+1, 0, 0, 0), api.ErrRate},
		{api.Contract{Kind: api.Abr, Peak: 5, Least: 4}, api.ErrRate},
	} {
		if p, e := police.New(x.c); p != nil || e != x.want {
			t.Errorf("New(%+v): %v, %d, not %d", x.c, p, e, x.want)
		}
	}
}

// P7.1, R1: a nil policer.
func TestNil(t *testing.T) {
	var p *police.Policer
	for _, x := range []int{math.MinInt, -1, 0, 1, 2, top, math.MaxInt} {
		if got := p.Take(x, 0); got != api.Drop {
			t.Errorf("Take(%d, 0): %d", x, got)
		}
		if got := p.Take(0, x); got != api.Drop {
			t.Errorf("Take(0, %d): %d", x, got)
		}
		if p.Due(x) != 0 || p.Counts() != [4]int{} {
			t.Errorf("Due(%d): %d; Counts: %v", x, p.Due(x), p.Counts())
		}
	}
}

// R1: one that New didn't make has no rules, so none drops.
func TestZeroValue(t *testing.T) {
	p := &police.Policer{}
	if p.Take(0, 0) != api.Pass || p.Take(0, 1) != api.Pass || p.Due(0) != 0 || p.Counts() != [4]int{2, 2, 0, 0} {
		t.Errorf("%+v", say(p))
	}
}

// P7.1: times that go on to MaxTime, and beyond it, where Due may lie but no time comes.
func TestAtMaxTime(t *testing.T) {
	for _, kind := range seven {
		p := policer(t, of(kind, 10, 3, 10, 0))
		first := p.Take(top, 0)
		if first == api.Drop || p.Due(0) != top+7 || p.Due(1) != top+7 {
			t.Errorf("the kind %d: %d, due at %d, %d", kind, first, p.Due(0), p.Due(1))
		}
		for _, x := range []int{top, top + 7, top + 100, math.MaxInt, 0, math.MinInt} {
			if got := p.Take(x, 0); got != api.Drop {
				t.Errorf("the kind %d, at %d: %d", kind, x, got)
			}
		}
	}
}

// R5: no policer hears of another one, of the same contract either.
func TestPolicersAreApart(t *testing.T) {
	for _, kind := range seven {
		c := of(kind, 5, 1, 20, 15)
		one, other := policer(t, c), policer(t, c)
		for x := range 50 {
			one.Take(x, x%2)
		}
		if say(other) != say(policer(t, c)) {
			t.Errorf("the kind %d: %+v", kind, say(other))
		}
		was := say(one)
		other.Take(500, 0)
		if say(one) != was {
			t.Errorf("the kind %d: %+v, not %+v", kind, say(one), was)
		}
	}
}
