package hec_test

import (
	"testing"

	"trunkline/hec"
)

// noise makes headers by a fixed rule, so that every run has the same ones.
type noise uint64

func (n *noise) next() uint64 {
	*n = *n*6364136223846793005 + 1442695040888963407
	return uint64(*n) >> 32
}

func (n *noise) four() [4]byte {
	x := n.next()
	return [4]byte{byte(x >> 24), byte(x >> 16), byte(x >> 8), byte(x)}
}

// check is a header's by long division, on its bits as one number: none of the program's own calls.
func check(b [4]byte) byte {
	row := uint64(0)
	for _, x := range b {
		row = row<<8 | uint64(x)
	}
	row <<= 8
	for i := 39; i >= 8; i-- {
		if row>>i&1 == 1 {
			row ^= 0x107 << (i - 8)
		}
	}
	return byte(row) ^ 0x55
}

func sealed(b [4]byte) [5]byte { return [5]byte{b[0], b[1], b[2], b[3], check(b)} }

// turn is five bytes with these bits turned over.
func turn(b [5]byte, bits ...int) [5]byte {
	for _, n := range bits {
		b[n/8] ^= 0x80 >> (n % 8)
	}
	return b
}

func fours() [][4]byte {
	l := [][4]byte{{}, {0, 0, 0, 1}, {0xff, 0xff, 0xff, 0xff}, {0x00, 0x10, 0x00, 0x50}, {0x80, 0, 0, 0}}
	n := noise(3)
	for range 8 {
		l = append(l, n.four())
	}
	return l
}

// single tells whether one bit of five, turned over, would make that difference from the right check.
func single(differs byte) bool {
	for n := range 40 {
		x := turn(sealed([4]byte{}), n)
		if x[4]^check([4]byte(x[:4])) == differs {
			return true
		}
	}
	return false
}

// told is what a receiver says of itself.
type told struct {
	careful           bool
	repaired, dropped int
}

func of(r *hec.Receiver) told { return told{r.Careful(), r.Repaired(), r.Dropped()} }

// taken asks a receiver, and holds what it answers and says of itself against what it should.
func taken(t *testing.T, r *hec.Receiver, b [5]byte, want [4]byte, ok bool, self told) {
	t.Helper()
	got, is := r.Take(b)
	if got != want || is != ok {
		t.Errorf("Take(%x): %x, %t, not %x, %t", b, got, is, want, ok)
	}
	if of(r) != self {
		t.Errorf("behind Take(%x): %+v, not %+v", b, of(r), self)
	}
}

// repairing is a receiver behind a header that was right, careful one behind a header that was not.
func repairing() *hec.Receiver {
	r := &hec.Receiver{}
	r.Take(sealed([4]byte{1, 2, 3, 4}))
	return r
}

func careful() *hec.Receiver {
	r := repairing()
	r.Take(turn(sealed([4]byte{1, 2, 3, 4}), 9))
	return r
}

// P3.1: the chapter's example.
func TestExample(t *testing.T) {
	r := &hec.Receiver{}
	taken(t, r, [5]byte{0, 0, 0, 0, 0x55}, [4]byte{}, true, told{false, 0, 0})
	taken(t, r, [5]byte{0, 0, 0, 0, 0x54}, [4]byte{}, true, told{true, 1, 0})
	taken(t, r, [5]byte{0, 0, 0, 0, 0x54}, [4]byte{}, false, told{true, 1, 1})
}

// P3.1: four bytes stay, and their check follows.
func TestSeal(t *testing.T) {
	for _, x := range [][5]byte{{0, 0, 0, 0, 0x55}, {0, 0, 0, 1, 0x52}} {
		if got := hec.Seal([4]byte(x[:4])); got != x {
			t.Errorf("Seal(%x): %x, not %x", x[:4], got, x)
		}
	}
	n := noise(1)
	for range 2000 {
		b := n.four()
		if got := hec.Seal(b); got != sealed(b) {
			t.Fatalf("Seal(%x): %x, not %x", b, got, sealed(b))
		}
	}
	for i := range 32 {
		x := turn([5]byte{}, i)
		if got := hec.Seal([4]byte(x[:4])); got != sealed([4]byte(x[:4])) {
			t.Errorf("Seal(%x): %x", x[:4], got)
		}
	}
}

// P3.2: the zero value repairs, and has counted none.
func TestZeroValue(t *testing.T) {
	var r hec.Receiver
	if of(&r) != (told{}) {
		t.Errorf("the zero value: %+v", of(&r))
	}
	b := [4]byte{9, 8, 7, 6}
	taken(t, &r, turn(sealed(b), 17), b, true, told{true, 1, 0})
}

// P3.1, P3.3: what was sealed is taken in either state, is counted nowhere, and ends care.
func TestSealedIsTaken(t *testing.T) {
	for _, b := range fours() {
		taken(t, &hec.Receiver{}, hec.Seal(b), b, true, told{false, 0, 0})
		taken(t, repairing(), hec.Seal(b), b, true, told{false, 0, 0})
		taken(t, careful(), hec.Seal(b), b, true, told{false, 1, 0})
	}
}

// P3.1, P3.3: each of the 40 bits is repaired behind a header that was right, and dropped by a careful receiver.
func TestEachBit(t *testing.T) {
	for _, b := range fours() {
		for n := range 40 {
			x := turn(hec.Seal(b), n)
			taken(t, &hec.Receiver{}, x, b, true, told{true, 1, 0})
			taken(t, repairing(), x, b, true, told{true, 1, 0})
			taken(t, careful(), x, [4]byte{}, false, told{true, 1, 1})
		}
	}
}

// P3.1: a difference that tells no bit is dropped in either state, and makes a receiver careful though nothing was repaired.
func TestDifferenceThatTellsNoBit(t *testing.T) {
	many := 0
	for differs := 1; differs < 256; differs++ {
		if single(byte(differs)) {
			continue
		}
		many++
		for _, b := range fours() {
			x := sealed(b)
			x[4] ^= byte(differs)
			r := repairing()
			taken(t, r, x, [4]byte{}, false, told{true, 0, 1})
			taken(t, r, turn(sealed(b), 3), [4]byte{}, false, told{true, 0, 2})
			taken(t, r, sealed(b), b, true, told{false, 0, 2})
			taken(t, &hec.Receiver{}, x, [4]byte{}, false, told{true, 0, 1})
			taken(t, careful(), x, [4]byte{}, false, told{true, 1, 1})
		}
	}
	if many != 255-40 {
		t.Errorf("differences that tell no bit: %d", many)
	}
}

// P3.3: any two bits that are turned over are dropped, in either state.
func TestTwoBits(t *testing.T) {
	for _, b := range fours() {
		for i := range 40 {
			for j := range i {
				x := turn(hec.Seal(b), i, j)
				taken(t, repairing(), x, [4]byte{}, false, told{true, 0, 1})
				taken(t, careful(), x, [4]byte{}, false, told{true, 1, 1})
			}
		}
	}
}

// P3.1, P3.2: care lasts over any number of damaged headers, and one that is right ends it.
func TestCareLasts(t *testing.T) {
	b := [4]byte{0x12, 0x34, 0x56, 0x78}
	r := &hec.Receiver{}
	for round := range 5 {
		gone := round * 10
		taken(t, r, turn(sealed(b), round), b, true, told{true, round + 1, gone})
		for i := range 10 {
			taken(t, r, turn(sealed(b), i), [4]byte{}, false, told{true, round + 1, gone + i + 1})
		}
		for range 2 {
			taken(t, r, sealed(b), b, true, told{false, round + 1, gone + 10})
		}
	}
}

// P3.2, R1: a nil Receiver takes nothing, and tells none.
func TestNilReceiver(t *testing.T) {
	var r *hec.Receiver
	for _, b := range fours() {
		taken(t, r, sealed(b), [4]byte{}, false, told{})
		taken(t, r, turn(sealed(b), 4), [4]byte{}, false, told{})
		taken(t, r, turn(sealed(b), 4, 5), [4]byte{}, false, told{})
	}
}

// R5: asking changes nothing, and no receiver hears of another one.
func TestReceiversAreApart(t *testing.T) {
	b := [4]byte{5, 5, 5, 5}
	one, other := &hec.Receiver{}, &hec.Receiver{}
	taken(t, one, turn(sealed(b), 1), b, true, told{true, 1, 0})
	copied := *one
	taken(t, one, turn(sealed(b), 1), [4]byte{}, false, told{true, 1, 1})
	if of(other) != (told{}) || of(&copied) != (told{true, 1, 0}) {
		t.Errorf("another one, and a copy: %+v, %+v", of(other), of(&copied))
	}
	taken(t, &copied, sealed(b), b, true, told{false, 1, 0})
	for range 3 {
		if of(one) != (told{true, 1, 1}) {
			t.Errorf("asked again: %+v", of(one))
		}
	}
}

// P3.1, P3.2: long runs of headers of all sorts, held against the promise's sentences, with each header looked for among all that one bit away are right.
func TestLongRuns(t *testing.T) {
	for seed := range 20 {
		n := noise(seed + 50)
		r, self := &hec.Receiver{}, told{}
		for range 500 {
			x := turn(sealed(n.four()), damage(&n)...)
			want, ok := expected(x, &self)
			taken(t, r, x, want, ok, self)
		}
	}
}

// damage is no bit, or up to three; the same one may be among them twice.
func damage(n *noise) []int {
	var l []int
	for range n.next() % 4 {
		l = append(l, int(n.next()%40))
	}
	return l
}

func expected(x [5]byte, self *told) ([4]byte, bool) {
	if x == sealed([4]byte(x[:4])) {
		self.careful = false
		return [4]byte(x[:4]), true
	}
	was := self.careful
	self.careful = true
	for n := range 40 {
		if y := turn(x, n); !was && y == sealed([4]byte(y[:4])) {
			self.repaired++
			return [4]byte(y[:4]), true
		}
	}
	self.dropped++
	return [4]byte{}, false
}
