package cost_test

import (
	"math"
	"math/big"
	"math/bits"
	"slices"
	"testing"

	"trunkline/api"
	"trunkline/contract"
	"trunkline/cost"
)

const long = contract.Longest

// The seven kinds, by what their spans may be.
var (
	plain = []int{api.Cbr1, api.Ubr1, api.Ubr2}
	vbr   = []int{api.Vbr1, api.Vbr2, api.Vbr3}
	seven = []int{api.Cbr1, api.Vbr1, api.Vbr2, api.Vbr3, api.Abr, api.Ubr1, api.Ubr2}
)

// others are numbers that are no kind: those next to the seven, those that have a kind's bits and more, and the ends.
var others = []int{math.MinInt, -7, -1, 0, 8, 9, 257, 258, 1<<32 + 1, 1<<32 + 2, math.MaxInt}

// bursts are bursts that can be: those next to Half and its multiples, those next to powers of two, and the greatest.
var bursts = []int{0, 1, 2, 3, 4095, 4096, 4097, 8191, 8192, 8193, 12288, 1<<20 - 1, 1 << 20, 1<<20 + 1, 1 << 31, 1 << 32, 1<<39 + 1, long - 1, long}

// steps are steps that can be: those that divide a unit and those that don't, those next to a unit, and the greatest.
var steps = []int{1, 2, 3, 5, 7, 64, 999, 1000, 1023, 1024, 1025, 10000, 1<<19 - 1, 1 << 19, 1<<19 + 1, 1<<20 - 1, 1 << 20, 1<<20 + 1, 1 << 30, long - 1, long}

// noise is a fixed row of numbers without order.
type noise uint64

// below is one from 0 on, of the number's highest bits, as its lowest ones come again soon.
func (n *noise) below(most int) int {
	*n = *n*6364136223846793005 + 1442695040888963407
	high, _ := bits.Mul64(uint64(*n), uint64(most))
	return int(high)
}

// span is a span up to Longest that has any number of bits alike often.
func (n *noise) span(least int) int {
	return min(long, least+n.below(1<<n.below(41)))
}

// contract is one of any kind that can be.
func (n *noise) contract() api.Contract {
	c := api.Contract{Kind: seven[n.below(7)], Peak: n.span(1), Early: n.span(0)}
	switch {
	case slices.Contains(vbr, c.Kind):
		c.Whole, c.Burst = n.span(c.Peak), n.span(0)
	case c.Kind == api.Abr && n.below(3) > 0:
		c.Least = n.span(c.Peak)
	}
	return c
}

// canBe tells whether a contract can be, by the words of layer 6.
func canBe(c api.Contract) bool {
	if c.Peak < 1 || c.Peak > long || c.Early < 0 || c.Early > long {
		return false
	}
	switch {
	case slices.Contains(vbr, c.Kind):
		return c.Whole >= c.Peak && c.Whole <= long && c.Burst >= 0 && c.Burst <= long && c.Least == 0
	case c.Kind == api.Abr:
		return c.Whole == 0 && c.Burst == 0 && (c.Least == 0 || c.Least >= c.Peak && c.Least <= long)
	case slices.Contains(plain, c.Kind):
		return c.Whole == 0 && c.Burst == 0 && c.Least == 0
	}
	return false
}

// fewer tells whether a contract allows no more than another one, by the words of layer 6.
func fewer(a, b api.Contract) bool {
	if !canBe(a) || !canBe(b) || a.Kind != b.Kind {
		return false
	}
	shorter := a.Peak < b.Peak || a.Whole < b.Whole
	longer := a.Early > b.Early || a.Burst > b.Burst
	return !shorter && !longer && a.Least == b.Least
}

// cutUp is the least whole number that isn't below a quotient, by numbers of any length.
func cutUp(x, by *big.Int) int {
	n, left := new(big.Int).DivMod(x, by, new(big.Int))
	if left.Sign() > 0 {
		n.Add(n, big.NewInt(1))
	}
	return int(n.Int64())
}

func per(step int) int {
	if step < 1 {
		return 0
	}
	return cutUp(big.NewInt(1<<20), big.NewInt(int64(step)))
}

// need is what a contract needs, by the words of P17.1.
func need(c api.Contract) int {
	switch {
	case !canBe(c) || c.Kind == api.Ubr1 || c.Kind == api.Ubr2 || c.Kind == api.Abr && c.Least == 0:
		return 0
	case c.Kind == api.Abr:
		return per(c.Least)
	case c.Kind == api.Cbr1:
		return per(c.Peak)
	}
	p, s, b := big.NewInt(int64(per(c.Peak))), big.NewInt(int64(per(c.Whole))), big.NewInt(int64(c.Burst))
	half := big.NewInt(4096)
	x := new(big.Int).Mul(s, half)
	x.Add(x, new(big.Int).Mul(p, b))
	return cutUp(x, new(big.Int).Add(b, half))
}

func needs(t *testing.T, c api.Contract, want int) {
	t.Helper()
	if n := cost.Need(c); n != want {
		t.Fatalf("Need(%+v): %d, not %d", c, n, want)
	}
}

// same holds what a contract needs against the words.
func same(t *testing.T, c api.Contract) {
	t.Helper()
	needs(t, c, need(c))
}

// sampleOf is a contract of a kind that can be, and that needs something if one of its kind does.
func sampleOf(kind int) api.Contract {
	c := api.Contract{Kind: kind, Peak: 1000, Early: 3}
	switch {
	case slices.Contains(vbr, kind):
		c.Whole, c.Burst = 10000, 4096
	case kind == api.Abr:
		c.Least = 2000
	}
	return c
}

// fieldsOf are a contract's spans, in their order in package api.
func fieldsOf(c *api.Contract) [5]*int {
	return [5]*int{&c.Peak, &c.Early, &c.Whole, &c.Burst, &c.Least}
}

// P17.1: the burst by which it is half of what it would be at the peak.
func TestHalf(t *testing.T) {
	if cost.Half != 4096 {
		t.Errorf("Half: %d", cost.Half)
	}
	needs(t, api.Contract{Kind: api.Vbr1, Peak: 1, Whole: 1 << 20, Burst: cost.Half}, (1<<20+1+1)/2)
	needs(t, api.Contract{Kind: api.Vbr1, Peak: 1 << 10, Whole: 1 << 12, Burst: cost.Half}, (1024+256)/2)
}

// P17.1: the chapter's examples, and the document's.
func TestExample(t *testing.T) {
	needs(t, api.Contract{Kind: api.Cbr1, Peak: 1000}, 1049)
	needs(t, api.Contract{Kind: api.Vbr1, Peak: 1000, Whole: 10000, Burst: 4096}, 577)
}

// P17.1: cells in a unit, of steps that divide it and of steps that don't, of less than one cell, and of none.
func TestPer(t *testing.T) {
	for _, x := range []struct{ step, want int }{
		{1, 1048576}, {2, 524288}, {3, 349526}, {4, 262144}, {5, 209716}, {7, 149797}, {10, 104858},
		{1000, 1049}, {1023, 1026}, {1024, 1024}, {1025, 1024}, {4096, 256},
		{524287, 3}, {524288, 2}, {524289, 2}, {1048575, 2}, {1048576, 1}, {1048577, 1},
		{1 << 21, 1}, {1<<31 - 1, 1}, {1 << 31, 1}, {1 << 32, 1}, {long - 1, 1}, {long, 1}, {long + 1, 1},
		{api.MaxTime, 1}, {math.MaxInt - 1<<20, 1}, {math.MaxInt - 1, 1}, {math.MaxInt, 1},
		{0, 0}, {-1, 0}, {-2, 0}, {-1000, 0}, {-1 << 20, 0}, {-1 << 32, 0}, {math.MinInt + 1, 0}, {math.MinInt, 0},
	} {
		if n := cost.Per(x.step); n != x.want {
			t.Errorf("Per(%d): %d, not %d", x.step, n, x.want)
		}
	}
}

// P17.1: cells in a unit, counted one by one: those at 0 and each step later that lie ahead of its end.
func TestPerCounted(t *testing.T) {
	for step := 1; step <= api.Unit+100; step++ {
		count := 0
		for at := 0; at < api.Unit; at += step {
			count++
		}
		if n := cost.Per(step); n != count {
			t.Fatalf("Per(%d): %d, not %d", step, n, count)
		}
	}
	for step := -2000; step < 1; step++ {
		if n := cost.Per(step); n != 0 {
			t.Fatalf("Per(%d): %d", step, n)
		}
	}
}

// P17.1: what each of the seven kinds needs, written out.
func TestEachKind(t *testing.T) {
	for _, x := range []struct {
		c    api.Contract
		want int
	}{
		{api.Contract{Kind: api.Cbr1, Peak: 1}, 1048576},
		{api.Contract{Kind: api.Cbr1, Peak: 1, Early: long}, 1048576},
		{api.Contract{Kind: api.Cbr1, Peak: 3, Early: 9}, 349526},
		{api.Contract{Kind: api.Cbr1, Peak: 1024}, 1024},
		{api.Contract{Kind: api.Cbr1, Peak: long}, 1},
		{api.Contract{Kind: api.Vbr1, Peak: 1000, Whole: 10000, Burst: 4096}, 577},
		{api.Contract{Kind: api.Vbr2, Peak: 1000, Whole: 10000, Burst: 4096}, 577},
		{api.Contract{Kind: api.Vbr3, Peak: 1000, Whole: 10000, Burst: 4096}, 577},
		{api.Contract{Kind: api.Vbr3, Peak: 1000, Early: long, Whole: 10000, Burst: 4096}, 577},
		{api.Contract{Kind: api.Abr, Peak: 10, Least: 2000}, 525},
		{api.Contract{Kind: api.Abr, Peak: 10, Early: 5, Least: 10}, 104858},
		{api.Contract{Kind: api.Abr, Peak: 1, Least: 1}, 1048576},
		{api.Contract{Kind: api.Abr, Peak: 1, Least: long}, 1},
		{api.Contract{Kind: api.Abr, Peak: long, Least: long}, 1},
		{api.Contract{Kind: api.Abr, Peak: 10}, 0},
		{api.Contract{Kind: api.Abr, Peak: 1}, 0},
		{api.Contract{Kind: api.Ubr1, Peak: 1}, 0},
		{api.Contract{Kind: api.Ubr1, Peak: 1000, Early: 8}, 0},
		{api.Contract{Kind: api.Ubr2, Peak: 1}, 0},
		{api.Contract{Kind: api.Ubr2, Peak: 1000, Early: 8}, 0},
	} {
		needs(t, x.c, x.want)
	}
}

// P17.1: a Vbr contract's bursts, written out: none, Half, those next to it, and the greatest; quotients that are whole, and that are cut off.
func TestEachBurst(t *testing.T) {
	for _, x := range []struct{ peak, whole, burst, want int }{
		{1000, 10000, 0, 105}, {1000, 10000, 1, 106}, {1000, 10000, 4095, 577}, {1000, 10000, 4096, 577},
		{1000, 10000, 4097, 578}, {1000, 10000, long, 1049},
		{1024, 4096, 0, 256}, {1024, 4096, 4095, 640}, {1024, 4096, 4096, 640}, {1024, 4096, 4097, 641}, {1024, 4096, 12288, 832},
		{1000, 1000, 0, 1049}, {1000, 1000, 4096, 1049}, {1000, 1000, long, 1049},
		{1, 1, 0, 1048576}, {1, 1, 7, 1048576}, {1, 1, long, 1048576},
		{1, 2, long, 1048576}, {1, 3, 12288, 873814},
		{1, long, 0, 1}, {1, long, 1, 257}, {1, long, 4096, 524289}, {1, long, long - 1, 1048576}, {1, long, long, 1048576},
		{1 << 19, 1 << 20, 0, 1}, {1 << 19, 1 << 20, 1, 2}, {1 << 19, long, long, 2}, {1 << 20, long, long, 1}, {long, long, long, 1},
		{3, 1000, 5000, 192605},
	} {
		for _, kind := range vbr {
			needs(t, api.Contract{Kind: kind, Peak: x.peak, Whole: x.whole, Burst: x.burst}, x.want)
		}
	}
}

// P17.1: what is no kind needs nothing, whatever its spans.
func TestOtherKinds(t *testing.T) {
	for _, kind := range others {
		for _, like := range seven {
			c := sampleOf(like)
			c.Kind = kind
			needs(t, c, 0)
		}
	}
	for kind := -3000; kind <= 3000; kind++ {
		c := api.Contract{Kind: kind, Peak: 1000}
		want := 0
		if kind == api.Cbr1 {
			want = 1049
		}
		needs(t, c, want)
	}
	needs(t, api.Contract{}, 0)
}

// P17.1: what can't be, by one field of each kind, needs nothing; just inside of what can be it needs what is told.
func TestEachFieldThatCannotBe(t *testing.T) {
	wrong := []int{math.MinInt, -long, -1000, -1, 0, 1, 2, 999, 1000, 1001, 9999, 10000, 10001, long - 1, long, long + 1, math.MaxInt}
	for _, kind := range seven {
		for i := range fieldsOf(&api.Contract{}) {
			for _, x := range wrong {
				c := sampleOf(kind)
				*fieldsOf(&c)[i] = x
				same(t, c)
				if !canBe(c) {
					needs(t, c, 0)
				}
			}
		}
	}
	for _, c := range []api.Contract{
		{Kind: api.Cbr1}, {Kind: api.Cbr1, Peak: -1}, {Kind: api.Cbr1, Peak: long + 1}, {Kind: api.Cbr1, Peak: 5, Early: -1},
		{Kind: api.Cbr1, Peak: 5, Early: long + 1}, {Kind: api.Cbr1, Peak: 5, Whole: 5}, {Kind: api.Cbr1, Peak: 5, Burst: 1}, {Kind: api.Cbr1, Peak: 5, Least: 5},
		{Kind: api.Vbr1, Whole: 5}, {Kind: api.Vbr2, Peak: 5}, {Kind: api.Vbr3, Peak: 5, Whole: 4}, {Kind: api.Vbr1, Peak: 5, Whole: long + 1},
		{Kind: api.Vbr1, Peak: 5, Whole: 9, Burst: -1}, {Kind: api.Vbr2, Peak: 5, Whole: 9, Burst: -4096}, {Kind: api.Vbr3, Peak: 5, Whole: 9, Burst: long + 1},
		{Kind: api.Vbr3, Peak: 5, Whole: 9, Burst: math.MaxInt}, {Kind: api.Vbr1, Peak: 5, Whole: 9, Least: 9}, {Kind: api.Vbr1, Peak: 5, Early: -1, Whole: 9},
		{Kind: api.Abr, Peak: 5, Least: 4}, {Kind: api.Abr, Peak: 5, Least: -1}, {Kind: api.Abr, Peak: 5, Least: long + 1},
		{Kind: api.Abr, Peak: 0, Least: 9}, {Kind: api.Abr, Peak: 5, Early: -1, Least: 9}, {Kind: api.Abr, Peak: 5, Whole: 9, Least: 9}, {Kind: api.Abr, Peak: 5, Burst: 1, Least: 9},
	} {
		needs(t, c, 0)
	}
}

// P17.1: all Vbr contracts of steps and bursts at edges, and those that can't be among them.
func TestAllEdges(t *testing.T) {
	for _, kind := range vbr {
		for _, peak := range steps {
			for _, whole := range steps {
				for _, burst := range bursts {
					same(t, api.Contract{Kind: kind, Peak: peak, Whole: whole, Burst: burst})
				}
			}
		}
	}
}

// P17.1: all contracts of small spans, of all kinds and of the two numbers next to them.
func TestAllSmall(t *testing.T) {
	for kind := 0; kind <= 8; kind++ {
		for peak := -1; peak <= 5; peak++ {
			for whole := -1; whole <= 5; whole++ {
				for burst := -1; burst <= 3; burst++ {
					for least := -1; least <= 5; least++ {
						same(t, api.Contract{Kind: kind, Peak: peak, Early: burst, Whole: whole, Burst: burst, Least: least})
						same(t, api.Contract{Kind: kind, Peak: peak, Whole: whole, Burst: burst, Least: least})
					}
				}
			}
		}
	}
}

// P17.1: every burst from none to four times Half and beyond, next to one peak, once with each of four Wholes.
func TestEachSmallBurst(t *testing.T) {
	for _, whole := range []int{3, 4, 1000, long} {
		for burst := range 5 * cost.Half {
			same(t, api.Contract{Kind: api.Vbr2, Peak: 3, Whole: whole, Burst: burst})
		}
	}
}

// P17.1: contracts of any spans that can be, and with one field changed, so that most of them can't.
func TestMany(t *testing.T) {
	n := noise(17)
	for range 100000 {
		c := n.contract()
		if !canBe(c) {
			t.Fatalf("%+v", c)
		}
		same(t, c)
		*fieldsOf(&c)[n.below(5)] = n.span(0) - n.span(0)
		same(t, c)
	}
}

// P17.1: the sum of no list, of an empty one, of one and of many, of contracts that can be and that can't, in any order.
func TestSum(t *testing.T) {
	cbr, wrong := api.Contract{Kind: api.Cbr1, Peak: 1000}, api.Contract{Kind: api.Cbr1, Peak: 1000, Whole: 1000}
	for _, x := range []struct {
		l    []api.Contract
		want int
	}{
		{nil, 0}, {[]api.Contract{}, 0}, {[]api.Contract{{}}, 0}, {[]api.Contract{wrong}, 0},
		{[]api.Contract{cbr}, 1049}, {[]api.Contract{cbr, cbr}, 2098}, {[]api.Contract{wrong, cbr}, 1049}, {[]api.Contract{cbr, wrong}, 1049},
		{[]api.Contract{cbr, wrong, cbr}, 2098}, {[]api.Contract{{}, {}, cbr, {}, {}}, 1049},
		{[]api.Contract{sampleOf(api.Ubr1), cbr, sampleOf(api.Ubr2), sampleOf(api.Abr)}, 1049 + 525},
		{[]api.Contract{sampleOf(api.Vbr1), sampleOf(api.Vbr2), sampleOf(api.Vbr3), cbr}, 3*577 + 1049},
	} {
		if n := cost.Sum(x.l); n != x.want {
			t.Errorf("Sum(%+v): %d, not %d", x.l, n, x.want)
		}
	}
}

// P17.1: the sum is that of what each needs, however many there are, and in whatever order they lie.
func TestSumOfMany(t *testing.T) {
	n := noise(170)
	for _, many := range []int{0, 1, 2, 3, 7, 63, 64, 65, 255, 256, 257, 1000, 5000} {
		l, want := []api.Contract{}, 0
		for range many {
			c := n.contract()
			if n.below(4) == 0 {
				*fieldsOf(&c)[n.below(5)] = -1
			}
			l = append(l, c)
			want += need(c)
		}
		held := slices.Clone(l)
		if got := cost.Sum(l); got != want {
			t.Fatalf("Sum of %d: %d, not %d", many, got, want)
		}
		slices.Reverse(l)
		if got := cost.Sum(l); got != want {
			t.Fatalf("Sum of %d, turned round: %d, not %d", many, got, want)
		}
		slices.Reverse(l)
		if !slices.Equal(l, held) {
			t.Fatalf("Sum has changed what was handed in")
		}
		for i := range l {
			if got := cost.Sum(l[:i]) + cost.Sum(l[i:]); many < 300 && got != want {
				t.Fatalf("Sum of the first %d and of those behind them: %d, not %d", i, got, want)
			}
		}
	}
}

// P17.1: a sum that is longer than 32 bits, of contracts that need a unit's cells each.
func TestSumThatIsLong(t *testing.T) {
	l := slices.Repeat([]api.Contract{{Kind: api.Cbr1, Peak: 1}, {Kind: api.Vbr3, Peak: 1, Whole: long, Burst: long}}, 10000)
	if n := cost.Sum(l); n != 20000<<20 {
		t.Errorf("Sum: %d", n)
	}
}

// P17.2: a Vbr contract needs no less than on the whole, no more than at the peak, and without a burst just the first.
func TestBetween(t *testing.T) {
	n := noise(2)
	for range 100000 {
		c := api.Contract{Kind: vbr[n.below(3)], Peak: n.span(1), Early: n.span(0), Burst: n.span(0)}
		c.Whole = n.span(c.Peak)
		got, least, most := cost.Need(c), cost.Per(c.Whole), cost.Per(c.Peak)
		if got < least || got > most {
			t.Fatalf("Need(%+v): %d, from %d to %d", c, got, least, most)
		}
		c.Burst = 0
		needs(t, c, least)
	}
	for _, peak := range steps {
		for _, whole := range steps {
			if whole < peak {
				continue
			}
			for _, burst := range bursts {
				c := api.Contract{Kind: api.Vbr1, Peak: peak, Whole: whole, Burst: burst}
				if got := cost.Need(c); got < cost.Per(whole) || got > cost.Per(peak) || burst == 0 && got != cost.Per(whole) {
					t.Fatalf("Need(%+v): %d", c, got)
				}
			}
		}
	}
}

// noMore holds two contracts of which the first one allows no more against each other.
func noMore(t *testing.T, a, b api.Contract) {
	t.Helper()
	if fewer(a, b) != contract.Fewer(a, b) {
		t.Fatalf("Fewer(%+v, %+v): %t", a, b, contract.Fewer(a, b))
	}
	if fewer(a, b) && cost.Need(a) > cost.Need(b) {
		t.Fatalf("%+v needs %d, and %+v, which allows no less, %d", a, cost.Need(a), b, cost.Need(b))
	}
}

// P17.2: what allows no more needs no more: a span from cell to cell longer, or an early or a burst shorter, one alone and all together.
func TestFewerNeedsNoMore(t *testing.T) {
	n := noise(1717)
	count := 0
	for range 200000 {
		b := n.contract()
		a := b
		if n.below(2) == 0 {
			a.Peak = n.span(a.Peak)
		}
		if slices.Contains(vbr, a.Kind) && n.below(2) == 0 {
			a.Whole = n.span(a.Whole)
		}
		if n.below(2) == 0 {
			a.Burst = n.below(a.Burst + 1)
		}
		if n.below(2) == 0 {
			a.Early = n.below(a.Early + 1)
		}
		noMore(t, a, b)
		noMore(t, b, a)
		if fewer(a, b) {
			count++
		}
	}
	if count < 100000 {
		t.Errorf("just %d of them allow no more", count)
	}
}

// P17.2: what allows no more needs no more, of all Vbr contracts whose spans and bursts are near each other.
func TestFewerOfAllSmall(t *testing.T) {
	l := []api.Contract{}
	for peak := 1; peak <= 4; peak++ {
		for whole := peak; whole <= 5; whole++ {
			for _, burst := range []int{0, 1, 2, 4095, 4096, 4097, long} {
				l = append(l, api.Contract{Kind: api.Vbr1, Peak: peak, Whole: whole, Burst: burst})
			}
		}
	}
	for _, a := range l {
		for _, b := range l {
			noMore(t, a, b)
		}
	}
	for burst := range 3 * cost.Half {
		a := api.Contract{Kind: api.Vbr2, Peak: 3, Whole: 1000, Burst: burst}
		b := a
		b.Burst++
		noMore(t, a, b)
	}
}

// R5: asked once more, and with other ones asked between, each answers the same.
func TestAskedAgain(t *testing.T) {
	l := []api.Contract{}
	for _, kind := range append(slices.Clone(seven), others...) {
		l = append(l, sampleOf(kind))
	}
	for range 3 {
		for _, c := range l {
			same(t, c)
			same(t, api.Contract{Kind: api.Vbr1, Peak: 1, Whole: long, Burst: long})
			same(t, c)
		}
		if n := cost.Sum(l); n != 1049+3*577+525 {
			t.Fatalf("Sum: %d", n)
		}
		if n := cost.Sum(nil); n != 0 {
			t.Fatalf("Sum: %d", n)
		}
	}
}
