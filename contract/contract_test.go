package contract_test

import (
	"math"
	"slices"
	"testing"

	"trunkline/api"
	"trunkline/bucket"
	"trunkline/contract"
)

const long = contract.Longest

// The seven kinds, by what their spans may be.
var (
	plain = []int{api.Cbr1, api.Ubr1, api.Ubr2}
	vbr   = []int{api.Vbr1, api.Vbr2, api.Vbr3}
	seven = []int{1, 2, 3, 4, 5, 6, 7}
)

// others are numbers that are no kind: those next to the seven, and the ends.
var others = []int{math.MinInt, -7, -1, 0, 8, 9, 257, 1<<32 + 1, math.MaxInt}

// edges are the ends of what spans may be, the numbers next to them, and the ends of all numbers.
var edges = []int{math.MinInt, -long, -1, 0, 1, 2, 3, long - 1, long, long + 1, math.MaxInt}

func vbrOf(kind int) api.Contract {
	return api.Contract{Kind: kind, Peak: 2, Early: 1, Whole: 10, Burst: 40}
}

func plainOf(kind int) api.Contract { return api.Contract{Kind: kind, Peak: 5, Early: 2} }

func abr(least int) api.Contract {
	return api.Contract{Kind: api.Abr, Peak: 5, Early: 2, Least: least}
}

// sampleOf is a contract of a kind that can be.
func sampleOf(kind int) api.Contract {
	if slices.Contains(vbr, kind) {
		return vbrOf(kind)
	}
	return plainOf(kind)
}

// fieldsOf are a contract's spans, in their order in package api.
func fieldsOf(c *api.Contract) [5]*int {
	return [5]*int{&c.Peak, &c.Early, &c.Whole, &c.Burst, &c.Least}
}

// wrong is what is wrong with a contract by the chapter's words, sentence by sentence.
func wrong(c api.Contract) api.Errno {
	if !slices.Contains(seven, c.Kind) {
		return api.ErrKind
	}
	if c.Peak < 1 || c.Peak > long || c.Early < 0 || c.Early > long {
		return api.ErrRate
	}
	if slices.Contains(vbr, c.Kind) {
		if c.Whole < c.Peak || c.Whole > long || c.Burst < 0 || c.Burst > long || c.Least != 0 {
			return api.ErrRate
		}
		return api.OK
	}
	if c.Whole != 0 || c.Burst != 0 {
		return api.ErrRate
	}
	if c.Kind == api.Abr && c.Least >= c.Peak && c.Least <= long {
		return api.OK
	}
	if c.Least != 0 {
		return api.ErrRate
	}
	return api.OK
}

// rulesOf, mostOf and fewerOf are what the chapter promises, by its words.
func rulesOf(c api.Contract) []contract.Rule {
	if wrong(c) != api.OK {
		return nil
	}
	first := contract.Rule{Step: c.Peak, Early: c.Early}
	switch c.Kind {
	case api.Vbr1:
		return []contract.Rule{first, {Step: c.Whole, Early: c.Burst + c.Early}}
	case api.Vbr2:
		return []contract.Rule{first, {Step: c.Whole, Early: c.Burst + c.Early, Zero: true}}
	case api.Vbr3:
		return []contract.Rule{first, {Step: c.Whole, Early: c.Burst + c.Early, Zero: true, Tag: true}}
	}
	return []contract.Rule{first}
}

func mostOf(c api.Contract) int {
	if !slices.Contains(vbr, c.Kind) || wrong(c) != api.OK || c.Whole == c.Peak {
		return 0
	}
	return 1 + c.Burst/(c.Whole-c.Peak)
}

func fewerOf(a, b api.Contract) bool {
	if wrong(a) != api.OK || wrong(b) != api.OK || a.Kind != b.Kind {
		return false
	}
	shorter := a.Peak < b.Peak || a.Whole < b.Whole
	longer := a.Early > b.Early || a.Burst > b.Burst
	return !shorter && !longer && a.Least == b.Least
}

// same holds all that is told of one contract against the words.
func same(t *testing.T, c api.Contract) {
	t.Helper()
	if got, want := contract.Right(c), wrong(c); got != want {
		t.Fatalf("Right(%+v): %d, not %d", c, got, want)
	}
	if got, want := contract.Rules(c), rulesOf(c); !slices.Equal(got, want) {
		t.Fatalf("Rules(%+v): %+v, not %+v", c, got, want)
	}
	if got, want := contract.Always(c), c.Kind == api.Ubr2 && wrong(c) == api.OK; got != want {
		t.Fatalf("Always(%+v): %t", c, got)
	}
	if got, want := contract.Most(c), mostOf(c); got != want {
		t.Fatalf("Most(%+v): %d, not %d", c, got, want)
	}
}

// all hands on every contract whose fields are out of lists: those of the kinds, and of the spans in their order.
func all(kinds []int, spans [5][]int, yield func(api.Contract)) {
	var lay func(api.Contract, int)
	lay = func(c api.Contract, at int) {
		if at == len(spans) {
			yield(c)
			return
		}
		for _, x := range spans[at] {
			*fieldsOf(&c)[at] = x
			lay(c, at+1)
		}
	}
	for _, kind := range kinds {
		lay(api.Contract{Kind: kind}, 0)
	}
}

// asked is a contract, and what Right must answer.
type asked struct {
	c    api.Contract
	want api.Errno
}

func ask(t *testing.T, list ...asked) {
	t.Helper()
	for _, x := range list {
		if got := contract.Right(x.c); got != x.want {
			t.Errorf("Right(%+v): %d, not %d", x.c, got, x.want)
		}
		same(t, x.c)
	}
}

// with is a contract with one span changed.
func with(c api.Contract, span, x int) api.Contract {
	*fieldsOf(&c)[span] = x
	return c
}

// The places of the spans.
const (
	peak = iota
	early
	whole
	burst
	least
)

// The limit that other layers count on.
func TestLongest(t *testing.T) {
	if contract.Longest != 1099511627776 {
		t.Errorf("Longest: %d", contract.Longest)
	}
}

// P6.1 to P6.3: the chapter's example, and the document's.
func TestExample(t *testing.T) {
	c := api.Contract{Kind: api.Vbr3, Peak: 2, Early: 1, Whole: 10, Burst: 40}
	if e := contract.Right(c); e != api.OK {
		t.Errorf("Right: %d", e)
	}
	want := []contract.Rule{{Step: 2, Early: 1}, {Step: 10, Early: 41, Zero: true, Tag: true}}
	if got := contract.Rules(c); !slices.Equal(got, want) {
		t.Errorf("Rules: %+v", got)
	}
	if got := contract.Most(c); got != 6 {
		t.Errorf("Most: %d", got)
	}
	if contract.Always(c) || !contract.Fewer(c, c) {
		t.Error("Always, Fewer")
	}
	c.Early = 0
	if got := contract.Most(c); got != 6 {
		t.Errorf("without Early: Most: %d", got)
	}
}

// P6.1: each of the seven kinds can be, and has the number that the document says.
func TestKinds(t *testing.T) {
	if !slices.Equal(seven, []int{api.Cbr1, api.Vbr1, api.Vbr2, api.Vbr3, api.Abr, api.Ubr1, api.Ubr2}) {
		t.Error("the kinds' numbers")
	}
	for _, kind := range seven {
		ask(t, asked{sampleOf(kind), api.OK}, asked{api.Contract{Kind: kind}, api.ErrRate})
	}
	ask(t, asked{abr(9), api.OK})
}

// P6.1: a kind that is none of the seven comes first, whether its spans can be or can't.
func TestOtherKinds(t *testing.T) {
	for _, kind := range others {
		for _, like := range seven {
			c := sampleOf(like)
			c.Kind = kind
			ask(t, asked{c, api.ErrKind})
			for span := range 5 {
				for _, x := range edges {
					ask(t, asked{with(c, span, x), api.ErrKind})
				}
			}
		}
		ask(t, asked{api.Contract{Kind: kind}, api.ErrKind})
	}
	ask(t, asked{api.Contract{}, api.ErrKind})
}

// P6.1: Peak of each kind, at its ends and beyond.
func TestPeak(t *testing.T) {
	for _, kind := range seven {
		c := sampleOf(kind)
		if c.Whole != 0 {
			c.Whole = long // so that no Peak that can be is above it
		}
		for _, x := range []int{1, 2, long - 1, long} {
			ask(t, asked{with(c, peak, x), api.OK})
		}
		for _, x := range []int{0, -1, -long, math.MinInt, long + 1, 2 * long, math.MaxInt} {
			ask(t, asked{with(c, peak, x), api.ErrRate})
		}
	}
}

// P6.1: Early of each kind, at its ends and beyond.
func TestEarly(t *testing.T) {
	for _, kind := range seven {
		c := sampleOf(kind)
		for _, x := range []int{0, 1, c.Peak + 1, long - 1, long} {
			ask(t, asked{with(c, early, x), api.OK})
		}
		for _, x := range []int{-1, -long, math.MinInt, long + 1, math.MaxInt} {
			ask(t, asked{with(c, early, x), api.ErrRate})
		}
	}
}

// P6.1: Whole of the Vbr kinds: one below Peak, Peak itself, Longest and one more.
func TestWhole(t *testing.T) {
	for _, kind := range vbr {
		c := vbrOf(kind)
		for _, p := range []int{1, 2, 9, long - 1, long} {
			c.Peak = p
			for _, x := range []int{p, long} {
				ask(t, asked{with(c, whole, x), api.OK})
			}
			for _, x := range []int{p - 1, 0, -1, -p, math.MinInt, long + 1, math.MaxInt} {
				ask(t, asked{with(c, whole, x), api.ErrRate})
			}
		}
	}
}

// P6.1: Burst of the Vbr kinds, at its ends and beyond.
func TestBurst(t *testing.T) {
	for _, kind := range vbr {
		for _, x := range []int{0, 1, long - 1, long} {
			ask(t, asked{with(vbrOf(kind), burst, x), api.OK})
		}
		for _, x := range []int{-1, -long, math.MinInt, long + 1, math.MaxInt} {
			ask(t, asked{with(vbrOf(kind), burst, x), api.ErrRate})
		}
	}
}

// P6.1: Least of Abr: 0, or from Peak to Longest.
func TestLeast(t *testing.T) {
	for _, p := range []int{1, 2, 5, long - 1, long} {
		c := with(abr(0), peak, p)
		for _, x := range []int{0, p, long} {
			ask(t, asked{with(c, least, x), api.OK})
		}
		for _, x := range []int{-1, -p, math.MinInt, long + 1, math.MaxInt} {
			ask(t, asked{with(c, least, x), api.ErrRate})
		}
		if p > 1 {
			ask(t, asked{with(c, least, p-1), api.ErrRate}, asked{with(c, least, 1), api.ErrRate})
		}
	}
	// A Least that lies above a Peak that can't be doesn't help.
	for _, p := range []int{0, -1, math.MinInt, long + 1} {
		for _, x := range edges {
			ask(t, asked{with(with(abr(0), peak, p), least, x), api.ErrRate})
		}
	}
}

// P6.1: spans that a kind hasn't must be 0.
func TestSpansThatAreNot(t *testing.T) {
	for _, x := range []int{math.MinInt, -1, 1, 4, 5, 6, long, long + 1, math.MaxInt} {
		for _, kind := range plain {
			for _, span := range []int{whole, burst, least} {
				ask(t, asked{with(plainOf(kind), span, x), api.ErrRate})
			}
		}
		for _, span := range []int{whole, burst} {
			ask(t, asked{with(abr(0), span, x), api.ErrRate}, asked{with(abr(9), span, x), api.ErrRate})
		}
		for _, kind := range vbr {
			ask(t, asked{with(vbrOf(kind), least, x), api.ErrRate})
		}
	}
}

// P6.1 to P6.3: all contracts whose kinds and spans are edges, held against the chapter's words.
func TestAllEdges(t *testing.T) {
	kinds := slices.Concat(seven, others)
	all(kinds, [5][]int{edges, edges, edges, edges, edges}, func(c api.Contract) { same(t, c) })
}

// P6.1 to P6.3: all contracts with small spans.
func TestAllSmall(t *testing.T) {
	few := []int{-1, 0, 1, 2, 3, 4, 5, 6}
	all(seven, [5][]int{few, few, few, few, few}, func(c api.Contract) { same(t, c) })
}

// P6.2: the rules of each kind, written out.
func TestRules(t *testing.T) {
	first := contract.Rule{Step: 2, Early: 3}
	for kind, second := range map[int]contract.Rule{
		api.Vbr1: {Step: 10, Early: 19},
		api.Vbr2: {Step: 10, Early: 19, Zero: true},
		api.Vbr3: {Step: 10, Early: 19, Zero: true, Tag: true},
	} {
		c := api.Contract{Kind: kind, Peak: 2, Early: 3, Whole: 10, Burst: 16}
		if got := contract.Rules(c); !slices.Equal(got, []contract.Rule{first, second}) {
			t.Errorf("Rules(%+v): %+v", c, got)
		}
	}
	for _, kind := range []int{api.Cbr1, api.Ubr1, api.Ubr2, api.Abr} {
		c := api.Contract{Kind: kind, Peak: 2, Early: 3}
		if got := contract.Rules(c); !slices.Equal(got, []contract.Rule{first}) {
			t.Errorf("Rules(%+v): %+v", c, got)
		}
	}
	c := api.Contract{Kind: api.Abr, Peak: 2, Early: 3, Least: 7}
	if got := contract.Rules(c); !slices.Equal(got, []contract.Rule{first}) {
		t.Errorf("Rules(%+v): %+v", c, got)
	}
}

// P6.2: the second rule stands with Whole as long as Peak, and without a burst, too; the longest spans don't run over.
func TestRulesAtTheEnds(t *testing.T) {
	for _, kind := range vbr {
		c := api.Contract{Kind: kind, Peak: 4, Early: 1, Whole: 4}
		got := contract.Rules(c)
		if len(got) != 2 || got[0] != (contract.Rule{Step: 4, Early: 1}) || got[1].Step != 4 || got[1].Early != 1 {
			t.Errorf("Rules(%+v): %+v", c, got)
		}
		c = api.Contract{Kind: kind, Peak: long, Early: long, Whole: long, Burst: long}
		got = contract.Rules(c)
		if len(got) != 2 || got[0] != (contract.Rule{Step: long, Early: long}) || got[1].Step != long || got[1].Early != 2*long {
			t.Errorf("Rules(%+v): %+v", c, got)
		}
	}
}

// P6.2: whether cells are always tagged hangs on the kind, and on whether the contract can be.
func TestAlways(t *testing.T) {
	for _, kind := range seven {
		if got := contract.Always(sampleOf(kind)); got != (kind == api.Ubr2) {
			t.Errorf("Always of the kind %d: %t", kind, got)
		}
	}
	for span, x := range map[int]int{peak: 0, early: -1, whole: 5, burst: 1, least: 5} {
		if c := with(plainOf(api.Ubr2), span, x); contract.Always(c) {
			t.Errorf("Always(%+v)", c)
		}
	}
}

// P6.3: cut off, at both sides of what goes in without a rest; Early plays no part.
func TestMost(t *testing.T) {
	for _, x := range []struct{ peak, whole, burst, want int }{
		{2, 10, 0, 1}, {2, 10, 7, 1}, {2, 10, 8, 2}, {2, 10, 9, 2}, {2, 10, 39, 5}, {2, 10, 40, 6}, {2, 10, 47, 6}, {2, 10, 48, 7},
		{2, 3, 0, 1}, {2, 3, 5, 6}, {1, 2, long, long + 1}, {1, long, long, 2}, {1, long, long - 1, 2}, {1, long, long - 2, 1},
		{long - 1, long, long, long + 1}, {long, long, long, 0}, {1, 1, 100, 0}, {5, 5, 0, 0},
	} {
		for _, kind := range vbr {
			for _, e := range []int{0, 1, long} {
				c := api.Contract{Kind: kind, Peak: x.peak, Early: e, Whole: x.whole, Burst: x.burst}
				if got := contract.Most(c); got != x.want {
					t.Errorf("Most(%+v): %d, not %d", c, got, x.want)
				}
			}
		}
	}
	for _, c := range []api.Contract{plainOf(api.Cbr1), plainOf(api.Ubr1), plainOf(api.Ubr2), abr(0), abr(5), abr(9)} {
		if got := contract.Most(c); got != 0 {
			t.Errorf("Most(%+v): %d", c, got)
		}
	}
}

// P6.3: so many cells the rules' own buckets take, one each Peak ticks, from a connection that is never early.
func TestMostByBuckets(t *testing.T) {
	for p := 1; p <= 4; p++ {
		for w := p + 1; w <= 9; w++ {
			for b := range 40 {
				c := api.Contract{Kind: api.Vbr1, Peak: p, Whole: w, Burst: b}
				rules := contract.Rules(c)
				if len(rules) != 2 {
					t.Fatalf("Rules(%+v): %+v", c, rules)
				}
				first, second := bucket.New(rules[0].Step, rules[0].Early), bucket.New(rules[1].Step, rules[1].Early)
				many := 0
				for first.Take(many*p) && second.Take(many*p) {
					many++
				}
				if got := contract.Most(c); got != many {
					t.Fatalf("Most(%+v): %d, but %d go through", c, got, many)
				}
			}
		}
	}
}

// wider are contracts, one of each kind, whose spans can all be one longer and one shorter.
func wider() []api.Contract {
	l := []api.Contract{}
	for _, kind := range seven {
		l = append(l, sampleOf(kind))
	}
	return append(l, abr(9))
}

// P6.4: each span by itself: alike, longer, shorter.
func TestFewerBySpans(t *testing.T) {
	for _, c := range wider() {
		if !contract.Fewer(c, c) {
			t.Errorf("Fewer(%+v, itself)", c)
		}
		isVbr := slices.Contains(vbr, c.Kind)
		for span := range 5 {
			if !isVbr && (span == whole || span == burst) || span == least && c.Least == 0 {
				continue // one that can't be longer
			}
			more := with(c, span, *fieldsOf(&c)[span]+1)
			allows := span == early || span == burst // a longer one of these allows more, one of the others less
			if got, want := contract.Fewer(more, c), !allows && span != least; got != want {
				t.Errorf("Fewer(%+v, %+v): %t", more, c, got)
			}
			if got, want := contract.Fewer(c, more), allows; got != want {
				t.Errorf("Fewer(%+v, %+v): %t", c, more, got)
			}
		}
	}
	if contract.Fewer(abr(0), abr(9)) || contract.Fewer(abr(9), abr(0)) || !contract.Fewer(abr(0), abr(0)) {
		t.Error("Least of one alone")
	}
}

// P6.4: one span that allows more isn't made up for by the others.
func TestFewerMixed(t *testing.T) {
	b := api.Contract{Kind: api.Vbr1, Peak: 5, Early: 5, Whole: 20, Burst: 20}
	tighter := api.Contract{Kind: api.Vbr1, Peak: 9, Early: 0, Whole: 90, Burst: 0}
	if !contract.Fewer(tighter, b) || contract.Fewer(b, tighter) {
		t.Error("all of them tighter")
	}
	for span, x := range map[int]int{peak: 4, early: 6, whole: 19, burst: 21} {
		if a := with(tighter, span, x); contract.Right(a) != api.OK || contract.Fewer(a, b) {
			t.Errorf("Fewer(%+v, %+v)", a, b)
		}
	}
}

// P6.4: contracts of two kinds are never held against each other, alike as their spans may be.
func TestFewerOfTwoKinds(t *testing.T) {
	for _, a := range wider() {
		for _, b := range wider() {
			if got, want := contract.Fewer(a, b), a == b; got != want {
				t.Errorf("Fewer(%+v, %+v): %t", a, b, got)
			}
		}
	}
}

// P6.4: one that can't be, on either side, and on both.
func TestFewerOfWrongOnes(t *testing.T) {
	for _, c := range wider() {
		for span := range 5 {
			for _, x := range edges {
				bad := with(c, span, x)
				if wrong(bad) == api.OK {
					continue
				}
				if contract.Fewer(bad, c) || contract.Fewer(c, bad) || contract.Fewer(bad, bad) {
					t.Errorf("%+v, that can't be", bad)
				}
			}
		}
		for _, kind := range others {
			bad := c
			bad.Kind = kind
			if contract.Fewer(bad, c) || contract.Fewer(c, bad) || contract.Fewer(bad, bad) {
				t.Errorf("%+v, that can't be", bad)
			}
		}
	}
}

// P6.4: all pairs of contracts with small spans, of all kinds, and of those next to them.
func TestFewerOfAllSmall(t *testing.T) {
	var l []api.Contract
	spans := [5][]int{{0, 1, 2}, {-1, 0, 1}, {0, 1, 2, 3}, {0, 1}, {0, 2, 3}}
	all([]int{0, 1, 2, 3, 4, 5, 6, 7, 8}, spans, func(c api.Contract) { l = append(l, c) })
	for _, a := range l {
		for _, b := range l {
			if got, want := contract.Fewer(a, b), fewerOf(a, b); got != want {
				t.Fatalf("Fewer(%+v, %+v): %t", a, b, got)
			}
		}
	}
}

// P6.4: pairs at the ends of what spans may be.
func TestFewerOfEdges(t *testing.T) {
	for _, kind := range seven {
		var l []api.Contract
		ends := []int{0, 1, long, long + 1}
		all([]int{kind}, [5][]int{ends, ends, ends, ends, ends}, func(c api.Contract) { l = append(l, c) })
		for _, a := range l {
			for _, b := range l {
				if got, want := contract.Fewer(a, b), fewerOf(a, b); got != want {
					t.Fatalf("Fewer(%+v, %+v): %t", a, b, got)
				}
			}
		}
	}
}

// R2, R3, R5: no rules with a contract that can't be; rules are memory of their own, and are the same each time.
func TestRulesAreTheirOwn(t *testing.T) {
	for _, c := range wider() {
		one, other := contract.Rules(c), contract.Rules(c)
		for i := range one {
			one[i] = contract.Rule{Step: -1, Early: -1, Zero: !one[i].Zero, Tag: !one[i].Tag}
		}
		if want := rulesOf(c); !slices.Equal(other, want) || !slices.Equal(contract.Rules(c), want) {
			t.Errorf("Rules(%+v): %+v", c, other)
		}
		c.Peak = 0
		if got := contract.Rules(c); len(got) != 0 {
			t.Errorf("Rules(%+v): %+v", c, got)
		}
	}
}
