package rate_test

import (
	"math"
	"math/big"
	"sort"
	"strconv"
	"testing"

	"trunkline/api"
	"trunkline/rate"
)

// codes is how many numbers of sixteen bits there are.
const codes = 1 << 16

// noise makes numbers by a fixed rule, so that every run has the same ones.
type noise uint64

func (n *noise) below(most int) int {
	*n = *n*6364136223846793005 + 1442695040888963407
	return int((uint64(*n) >> 32) % uint64(most))
}

// parts is a code by the words of the chapter, read off its row of bits in text: none of the program's shifting.
type parts struct {
	top, z bool
	e, m   int
}

func read(t testing.TB, code int) parts {
	t.Helper()
	row := strconv.FormatInt(int64(codes|code), 2)[1:]
	number := func(bits string) int {
		x, err := strconv.ParseInt(bits, 2, 32)
		if err != nil {
			t.Fatal(err)
		}
		return int(x)
	}
	return parts{row[0] == '1', row[1] == '1', number(row[2:7]), number(row[7:])}
}

// canBe is whether there may be such a code.
func (p parts) canBe() bool {
	return !p.top && (p.z || p.e == 0 && p.m == 0)
}

// rate is 2^E times (1 and M / 512), as a fraction.
func (p parts) rate() *big.Rat {
	if !p.z {
		return new(big.Rat)
	}
	x := new(big.Rat).Add(whole(1), big.NewRat(int64(p.m), 512))
	for range p.e {
		x.Mul(x, whole(2))
	}
	return x
}

func whole(n int) *big.Rat { return big.NewRat(int64(n), 1) }

// cut is a fraction without what is behind the point.
func cut(x *big.Rat) int {
	return int(new(big.Int).Quo(x.Num(), x.Denom()).Int64())
}

// laid is a code by its parts, added up.
func laid(e, m int) uint16 { return uint16(16384 + 512*e + m) }

// coded is a code that can be, and its rate times 512, which the tests worked out by themselves.
type coded struct {
	code   uint16
	scaled int
}

// allCoded are all codes that can be, the least one first.
func allCoded() []coded {
	l := []coded{{0, 0}}
	power := 512
	for e := range 32 {
		for m := range 512 {
			l = append(l, coded{laid(e, m), power + power/512*m})
		}
		power *= 2
	}
	return l
}

// greatest is the code with the greatest rate that isn't above n, looked for in all of them.
func greatest(l []coded, n int) uint16 {
	above := sort.Search(len(l), func(i int) bool {
		return whole(n).Cmp(big.NewRat(int64(l[i].scaled), 512)) < 0
	})
	if n < 1 {
		return 0
	}
	return l[above-1].code
}

// P12.1, P12.2: the chapter's examples, and the document's.
func TestExamples(t *testing.T) {
	for _, x := range []struct {
		n    int
		code uint16
	}{{1, 0x4000}, {512, 0x5200}, {513, 0x5201}, {0, 0}} {
		if got := rate.Code(x.n); got != x.code {
			t.Errorf("Code(%d): %x, not %x", x.n, got, x.code)
		}
		if got := rate.Value(x.code); got != x.n {
			t.Errorf("Value(%x): %d, not %d", x.code, got, x.n)
		}
	}
}

// P12.1: Highest is a code, and the one more isn't.
func TestHighest(t *testing.T) {
	if rate.Highest != 32767 || rate.Highest != int(laid(31, 511)) {
		t.Errorf("Highest: %d", rate.Highest)
	}
	if !rate.Right(rate.Highest) || rate.Right(rate.Highest+1) {
		t.Errorf("Right at Highest: %t, and one more: %t", rate.Right(rate.Highest), rate.Right(rate.Highest+1))
	}
	if got := rate.Value(rate.Highest); got != 1023*(1<<22) {
		t.Errorf("Value of Highest: %d", got)
	}
	if got := rate.Value(rate.Highest + 1); got != 0 {
		t.Errorf("Value of one more than Highest, whose Z is 0: %d", got)
	}
}

// P12.1: codes that are written out: what each of the bits is for.
func TestWrittenOut(t *testing.T) {
	for _, x := range []struct {
		code   uint16
		right  bool
		scaled int
		value  int
		step   int
	}{
		{0x0000, true, 0, 0, api.MaxTime},
		{0x0001, false, 0, 0, api.MaxTime},
		{0x01ff, false, 0, 0, api.MaxTime},
		{0x0200, false, 0, 0, api.MaxTime},
		{0x3e00, false, 0, 0, api.MaxTime},
		{0x3fff, false, 0, 0, api.MaxTime},
		{0x4000, true, 512, 1, 1048576},
		{0x4001, true, 513, 1, 1046532}, // 1046531.99..
		{0x41ff, true, 1023, 1, 524801}, // 524800.5..
		{0x4200, true, 1024, 2, 524288},
		{0x4300, true, 1536, 3, 349526}, // 349525.3..
		{0x5000, true, 131072, 256, 4096},
		{0x5001, true, 131328, 256, 4089}, // 256.5: 4088.01..
		{0x51ff, true, 261888, 511, 2051}, // 511.5: 2050.001..
		{0x5200, true, 262144, 512, 2048},
		{0x5201, true, 262656, 513, 2045}, // 2044.007..
		{0x6800, true, 1 << 29, 1 << 20, 1},
		{0x67ff, true, 1023 << 19, 1023 << 10, 2}, // 1.0009..
		{0x6801, true, 513 << 20, 513 << 11, 1},
		{0x7e00, true, 1 << 40, 1 << 31, 1},
		{0x7fff, true, 1023 << 31, 4290772992, 1},
		{0x8000, false, 0, 0, api.MaxTime},
		{0xbfff, false, 0, 0, api.MaxTime},
		{0xc000, false, 512, 1, 1048576},
		{0xd201, false, 262656, 513, 2045},
		{0xffff, false, 1023 << 31, 4290772992, 1},
	} {
		if got := rate.Right(x.code); got != x.right {
			t.Errorf("Right(%x): %t", x.code, got)
		}
		if got := rate.Scaled(x.code); got != x.scaled {
			t.Errorf("Scaled(%x): %d, not %d", x.code, got, x.scaled)
		}
		if got := rate.Value(x.code); got != x.value {
			t.Errorf("Value(%x): %d, not %d", x.code, got, x.value)
		}
		if got := rate.Step(x.code); got != x.step {
			t.Errorf("Step(%x): %d, not %d", x.code, got, x.step)
		}
	}
}

// P12.1: Right of every code.
func TestRightOfAll(t *testing.T) {
	many := 0
	for c := range codes {
		p := read(t, c)
		if got := rate.Right(uint16(c)); got != p.canBe() {
			t.Errorf("Right(%x): %t", c, got)
		}
		if p.canBe() {
			many++
		}
	}
	if many != 1+32*512 {
		t.Errorf("%d can be", many)
	}
}

// P12.1: Scaled and Value of every code, those that can't be among them.
func TestScaledAndValueOfAll(t *testing.T) {
	for c := range codes {
		r := read(t, c).rate()
		scaled := new(big.Rat).Mul(r, whole(512))
		if !scaled.IsInt() || cut(scaled) != rate.Scaled(uint16(c)) {
			t.Fatalf("Scaled(%x): %d, not %s", c, rate.Scaled(uint16(c)), scaled)
		}
		if got := rate.Value(uint16(c)); got != cut(r) {
			t.Fatalf("Value(%x): %d, of %s", c, got, r)
		}
	}
}

// P12.1, P12.3: the highest bit plays no part, nor do E and M where Z is 0.
func TestBitsWithoutPart(t *testing.T) {
	for c := range codes {
		like := uint16(c % (codes / 2))
		if like < codes/4 {
			like = 0
		}
		code := uint16(c)
		if rate.Scaled(code) != rate.Scaled(like) || rate.Value(code) != rate.Value(like) || rate.Step(code) != rate.Step(like) {
			t.Fatalf("%x: %d, %d, %d; %x: %d, %d, %d", code, rate.Scaled(code), rate.Value(code), rate.Step(code), like, rate.Scaled(like), rate.Value(like), rate.Step(like))
		}
	}
}

// P12.3: Step of every code is enough ticks, and one tick less isn't.
func TestStepOfAll(t *testing.T) {
	unit := whole(api.Unit)
	for c := range codes {
		r, step := read(t, c).rate(), rate.Step(uint16(c))
		if r.Sign() == 0 {
			if step != api.MaxTime {
				t.Fatalf("Step(%x): %d, where the rate is 0", c, step)
			}
			continue
		}
		if step < 1 || new(big.Rat).Mul(r, whole(step)).Cmp(unit) < 0 {
			t.Fatalf("Step(%x): %d is too few for %s of Unit", c, step, r)
		}
		if new(big.Rat).Mul(r, whole(step-1)).Cmp(unit) >= 0 {
			t.Fatalf("Step(%x): one less than %d is enough for %s of Unit", c, step, r)
		}
	}
}

// P12.3: greater rates have no longer steps, down to 1 from Unit on.
func TestStepsFall(t *testing.T) {
	last := api.MaxTime
	for _, x := range allCoded() {
		step := rate.Step(x.code)
		if step > last {
			t.Fatalf("Step(%x): %d, behind %d", x.code, step, last)
		}
		if (step == 1) != (rate.Value(x.code) >= api.Unit) {
			t.Fatalf("Step(%x): %d, of %d", x.code, step, rate.Value(x.code))
		}
		last = step
	}
}

// P12.2: rates below 1 have the code 0, and 1 has another one.
func TestCodeBelowOne(t *testing.T) {
	for _, n := range []int{math.MinInt, math.MinInt + 1, -1 << 62, -api.MaxTime, -1 << 32, -1 << 31, -513, -512, -2, -1, 0} {
		if got := rate.Code(n); got != 0 {
			t.Errorf("Code(%d): %x", n, got)
		}
	}
	if got := rate.Code(1); got != 0x4000 {
		t.Errorf("Code(1): %x", got)
	}
}

// P12.2: no code is beyond Highest, whose rate is the first that has it.
func TestCodeBeyondHighest(t *testing.T) {
	top := 1023 << 22
	if got := rate.Code(top - 1); got != rate.Highest-1 {
		t.Errorf("Code(%d): %x", top-1, got)
	}
	for _, n := range []int{top, top + 1, 1<<32 - 1, 1 << 32, 1<<32 + 1, 1<<40 + 3, 1<<53 - 1, 1 << 53, 1 << 54, 1<<54 + 1, 1 << 55, 1<<60 - 1, api.MaxTime, 1<<60 + 1, 1 << 62, math.MaxInt - 1, math.MaxInt} {
		if got := rate.Code(n); got != rate.Highest {
			t.Errorf("Code(%d): %x", n, got)
		}
	}
}

// P12.2: each power of 2, one less and one more; all of an int's bits.
func TestCodeAtPowers(t *testing.T) {
	l := allCoded()
	for bit := range 63 {
		n := 1 << bit
		for _, x := range []int{n - 1, n, n + 1} {
			if got, want := rate.Code(x), greatest(l, x); got != want {
				t.Errorf("Code(%d): %x, not %x", x, got, want)
			}
		}
		if bit < 32 && rate.Code(n) != laid(bit, 0) {
			t.Errorf("Code(%d): %x, with M", n, rate.Code(n))
		}
	}
	for _, x := range []struct {
		n    int
		code uint16
	}{{2, laid(1, 0)}, {3, laid(1, 256)}, {255, laid(7, 508)}, {257, laid(8, 2)}, {511, laid(8, 510)}, {1023, laid(9, 511)}, {1024, laid(10, 0)}, {1025, laid(10, 0)}, {1026, laid(10, 1)}, {2047, laid(10, 511)}, {1<<31 - 1, laid(30, 511)}, {1 << 31, laid(31, 0)}, {1<<31 + 1<<22 - 1, laid(31, 0)}, {1<<31 + 1<<22, laid(31, 1)}} {
		if got := rate.Code(x.n); got != x.code {
			t.Errorf("Code(%d): %x, not %x", x.n, got, x.code)
		}
	}
}

// P12.2: all rates that are small, held against all codes that can be.
func TestCodeOfSmallRates(t *testing.T) {
	l := allCoded()
	for n := -10; n < 20000; n++ {
		if got, want := rate.Code(n), greatest(l, n); got != want {
			t.Fatalf("Code(%d): %x, not %x", n, got, want)
		}
	}
}

// P12.2: at each code's rate, and beside it.
func TestCodeAtEachRate(t *testing.T) {
	l := allCoded()
	for _, x := range l {
		value := x.scaled / 512
		for n := value - 1; n <= value+1; n++ {
			if got, want := rate.Code(n), greatest(l, n); got != want {
				t.Fatalf("Code(%d): %x, not %x", n, got, want)
			}
		}
	}
}

// P12.2: rates of any size.
func TestCodeAtMany(t *testing.T) {
	l, r := allCoded(), noise(12)
	for range 30000 {
		n := r.below(1<<31)<<31 | r.below(1<<31)
		n >>= r.below(62)
		if got, want := rate.Code(n), greatest(l, n); got != want {
			t.Fatalf("Code(%d): %x, not %x", n, got, want)
		}
	}
}

// P12.2: what Code tells can be, and isn't above the rate; the next code is.
func TestCodeIsTheGreatest(t *testing.T) {
	r := noise(3)
	for range 30000 {
		n := 1 + r.below(1<<31)>>r.below(31)
		c := rate.Code(n)
		if !rate.Right(c) || rate.Scaled(c) > 512*n || rate.Scaled(c+1) <= 512*n {
			t.Fatalf("Code(%d): %x, %d and then %d of 512", n, c, rate.Scaled(c), rate.Scaled(c+1))
		}
	}
}

// P12.4: greater codes that can be have greater rates, one by one.
func TestGreaterCodes(t *testing.T) {
	l := allCoded()
	for i, x := range l {
		if !rate.Right(x.code) || rate.Scaled(x.code) != x.scaled {
			t.Fatalf("%x: %t, %d, not %d", x.code, rate.Right(x.code), rate.Scaled(x.code), x.scaled)
		}
		if i == 0 {
			continue
		}
		less := l[i-1].code
		if less >= x.code || rate.Scaled(less) >= rate.Scaled(x.code) || rate.Value(less) > rate.Value(x.code) {
			t.Fatalf("%x: %d; %x: %d", less, rate.Scaled(less), x.code, rate.Scaled(x.code))
		}
	}
}

// P12.4: Value of Code is the rate itself, from 0 to 512, one by one.
func TestValueOfCodeIsTheSame(t *testing.T) {
	for n := range 513 {
		if got := rate.Value(rate.Code(n)); got != n {
			t.Errorf("Value(Code(%d)): %d", n, got)
		}
	}
}

// near holds Value of Code of a rate beyond 512 against P12.4, with n / 512 as a fraction, which asks for no less than one that is cut off.
func near(t *testing.T, n int) {
	t.Helper()
	got := rate.Value(rate.Code(n))
	least := new(big.Rat).Sub(whole(n-1), big.NewRat(int64(n), 512))
	if got > n || whole(got).Cmp(least) <= 0 || got <= n-n/512-1 {
		t.Fatalf("Value(Code(%d)): %d", n, got)
	}
}

// P12.4: Value of Code is near the rate, up to 2^31.
func TestValueOfCodeIsNear(t *testing.T) {
	for n := 513; n < 200000; n++ {
		near(t, n)
	}
	for bit := 10; bit <= 31; bit++ {
		for d := -3; d <= 3 && 1<<bit+d <= 1<<31; d++ {
			near(t, 1<<bit+d)
		}
	}
	for _, x := range allCoded() {
		for n := x.scaled/512 - 1; n <= x.scaled/512+1; n++ {
			if n > 512 && n <= 1<<31 {
				near(t, n)
			}
		}
	}
	r := noise(4)
	for range 100000 {
		near(t, 513+r.below(1<<31-512))
	}
}

// P12.4: Code of Value isn't above the code; it is the code, if E is 9 or more; below 9 the codes of one value have the first one's.
func TestCodeOfValue(t *testing.T) {
	for _, x := range allCoded() {
		got, p := rate.Code(rate.Value(x.code)), read(t, int(x.code))
		if got > x.code {
			t.Fatalf("Code(Value(%x)): %x", x.code, got)
		}
		if p.e >= 9 && got != x.code {
			t.Fatalf("Code(Value(%x)), of E %d: %x", x.code, p.e, got)
		}
		if rate.Value(got) != rate.Value(x.code) || got > 0 && rate.Value(got-1) == rate.Value(x.code) {
			t.Fatalf("Code(Value(%x)): %x isn't the first with %d", x.code, got, rate.Value(x.code))
		}
	}
}

// P12.4: the edges of E and M.
func TestCodeOfValueAtEdges(t *testing.T) {
	for _, x := range []struct{ e, m, value, back, step int }{
		{0, 0, 1, 0, 1 << 20},
		{0, 511, 1, 0, 524801},
		{8, 0, 256, 0, 4096},
		{8, 1, 256, 0, 4089},
		{8, 2, 257, 2, 4081},
		{8, 511, 511, 510, 2051},
		{9, 0, 512, 0, 2048},
		{9, 511, 1023, 511, 1026},
		{30, 0, 1 << 30, 0, 1},
		{30, 511, 1023 << 21, 511, 1},
		{31, 0, 1 << 31, 0, 1},
		{31, 511, 1023 << 22, 511, 1},
	} {
		c := laid(x.e, x.m)
		if got := rate.Value(c); got != x.value {
			t.Errorf("E %d, M %d: Value: %d, not %d", x.e, x.m, got, x.value)
		}
		if got := rate.Code(x.value); got != laid(x.e, x.back) {
			t.Errorf("E %d, M %d: Code of Value: %x, not %x", x.e, x.m, got, laid(x.e, x.back))
		}
		if got := rate.Step(c); got != x.step {
			t.Errorf("E %d, M %d: Step: %d, not %d", x.e, x.m, got, x.step)
		}
	}
}

// R1, R5: all calls end at all arguments, and say the same again, whatever was asked meanwhile.
func TestSameAgain(t *testing.T) {
	type told struct {
		right               bool
		scaled, value, step int
	}
	of := func(c int) told {
		code := uint16(c)
		return told{rate.Right(code), rate.Scaled(code), rate.Value(code), rate.Step(code)}
	}
	var first []told
	for c := range codes {
		first = append(first, of(c))
	}
	for c := codes - 1; c >= 0; c-- {
		n := first[c].value
		code := rate.Code(n)
		if of(c) != first[c] || rate.Code(n) != code {
			t.Fatalf("%x: %+v, then %+v", c, first[c], of(c))
		}
	}
}
