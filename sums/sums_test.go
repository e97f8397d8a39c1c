package sums_test

import (
	"bytes"
	"hash/crc32"
	"math/bits"
	"testing"

	"trunkline/sums"
)

// check is one of the three, with its generator written out whole.
type check struct {
	name      string
	of        func([]byte) uint32
	generator uint64
	degree    int
}

func checks() []check {
	return []check{
		{"Eight", func(b []byte) uint32 { return uint32(sums.Eight(b)) }, 1<<8 | 1<<2 | 1<<1 | 1, 8},
		{"Ten", func(b []byte) uint32 { return uint32(sums.Ten(b)) }, 1<<10 | 1<<9 | 1<<5 | 1<<4 | 1<<1 | 1, 10},
		{"Long", sums.Long, 1<<32 | 0x04c11db7, 32},
	}
}

// noise fills texts by a fixed rule, so that every run has the same ones.
type noise uint64

func (n *noise) next() uint64 {
	*n = *n*6364136223846793005 + 1442695040888963407
	return uint64(*n) >> 32
}

func (n *noise) text(many int) []byte {
	b := make([]byte, many)
	for i := range b {
		b[i] = byte(n.next())
	}
	return b
}

// turn is a copy of b in which the bits of a pattern, laid from a bit on, are turned over; the pattern's lowest bit comes first.
func turn(b []byte, from int, pattern uint64) []byte {
	c := bytes.Clone(b)
	for i := 0; pattern>>i != 0; i++ {
		if pattern>>i&1 == 1 {
			c[(from+i)/8] ^= 0x80 >> ((from + i) % 8)
		}
	}
	return c
}

// divide is the remainder by long division, on the bits written out: no register as the program has.
func divide(b []byte, over int, c check) uint32 {
	var row []byte
	for _, x := range b {
		for i := 7; i >= 0; i-- {
			row = append(row, x>>i&1)
		}
	}
	row = append(row, make([]byte, c.degree)...)
	for i := range over {
		row[i] ^= 1
	}
	last := len(row) - c.degree
	for i := range last {
		if row[i] == 0 {
			continue
		}
		for j := range c.degree + 1 {
			row[i+j] ^= byte(c.generator >> (c.degree - j) & 1)
		}
	}
	rest := uint32(0)
	for _, x := range row[last:] {
		rest = rest<<1 | uint32(x)
	}
	return rest
}

func byDivision(b []byte, c check) uint32 {
	switch c.name {
	case "Eight":
		return divide(b, 0, c) ^ 0x55
	case "Ten":
		return divide(b, 0, c)
	}
	return ^divide(b, 32, c)
}

// sampleTexts are all texts of up to one byte, many of two, and some of each length up to 70.
func sampleTexts() [][]byte {
	l := [][]byte{nil, {}}
	for x := range 256 {
		l = append(l, []byte{byte(x)})
		l = append(l, []byte{byte(x), byte(x * 7)})
	}
	n := noise(1)
	for many := range 71 {
		l = append(l, make([]byte, many), bytes.Repeat([]byte{0xff}, many))
		for range 4 {
			l = append(l, n.text(many))
		}
	}
	return l
}

// P1.1: the examples of the chapter, and values of these checks that are known elsewhere.
func TestKnownChecks(t *testing.T) {
	digits := []byte("123456789")
	for _, x := range []struct {
		check string
		got   uint32
		want  uint32
	}{
		{"Eight(00000000)", uint32(sums.Eight([]byte{0, 0, 0, 0})), 0x55},
		{"Eight(00000001)", uint32(sums.Eight([]byte{0, 0, 0, 1})), 0x52},
		{"Eight(80)", uint32(sums.Eight([]byte{0x80})), 0x55 ^ 0x89},
		{"Eight(digits)", uint32(sums.Eight(digits)), 0xa1},
		{"Eight()", uint32(sums.Eight(nil)), 0x55},
		{"Ten(00000000)", uint32(sums.Ten([]byte{0, 0, 0, 0})), 0},
		{"Ten(01)", uint32(sums.Ten([]byte{1})), 0x233},
		{"Ten(digits)", uint32(sums.Ten(digits)), 0x199},
		{"Ten()", uint32(sums.Ten(nil)), 0},
		{"Long(digits)", sums.Long(digits), 0xfc891918},
		{"Long()", sums.Long(nil), 0},
		{"Long(00)", sums.Long([]byte{0}), 0xb1f7404b},
		{"Long(ffffffff)", sums.Long([]byte{0xff, 0xff, 0xff, 0xff}), 0xffffffff},
		{"Long(000000)", sums.Long([]byte{0, 0, 0}), ^divide([]byte{0, 0, 0}, 32, checks()[2])},
	} {
		if x.got != x.want {
			t.Errorf("%s: %x, not %x", x.check, x.got, x.want)
		}
	}
}

// P1.1: the remainder is that of a long division, on texts of no byte, of fewer than 32 bits, and of more.
func TestChecksAreRemainders(t *testing.T) {
	for _, c := range checks() {
		for _, b := range sampleTexts() {
			if got, want := c.of(b), byDivision(b, c); got != want {
				t.Fatalf("%s(%x): %x, not %x", c.name, b, got, want)
			}
		}
	}
}

// P1.1: Long is CRC-32 with each byte's highest bit first, where the library has its lowest bit first.
func TestLongByTheLibrary(t *testing.T) {
	for _, b := range sampleTexts() {
		mirror := bytes.Clone(b)
		for i, x := range mirror {
			mirror[i] = bits.Reverse8(x)
		}
		if got, want := sums.Long(b), bits.Reverse32(crc32.ChecksumIEEE(mirror)); got != want {
			t.Fatalf("Long(%x): %x, not %x", b, got, want)
		}
	}
}

// P1.1: Ten has no more than ten bits.
func TestTenHasTenBits(t *testing.T) {
	seen := uint16(0)
	for _, b := range sampleTexts() {
		seen |= sums.Ten(b)
	}
	if seen != 1<<10-1 {
		t.Errorf("bits that Ten had: %x", seen)
	}
}

// P1.2: no byte, one byte (the check of none), and more.
func TestSyndrome(t *testing.T) {
	for _, b := range [][]byte{nil, {}, {0x55}, {0, 0, 0, 0, 0x55}, {0, 0, 0, 1, 0x52}} {
		if x := sums.Syndrome(b); x != 0 {
			t.Errorf("Syndrome(%x): %x", b, x)
		}
	}
	for last := range 256 {
		if x := sums.Syndrome([]byte{byte(last)}); x != byte(last)^0x55 {
			t.Errorf("Syndrome of one byte %x: %x", last, x)
		}
	}
	for _, b := range sampleTexts() {
		for _, differs := range []byte{0, 1, 0x80, 0xff} {
			whole := append(bytes.Clone(b), byte(byDivision(b, checks()[0]))^differs)
			if x := sums.Syndrome(whole); x != differs {
				t.Fatalf("Syndrome(%x): %x, not %x", whole, x, differs)
			}
		}
	}
}

// headers are five bytes each, with their check.
func headers() [][]byte {
	l := [][]byte{{0, 0, 0, 0}, {0, 0, 0, 1}, {0xff, 0xff, 0xff, 0xff}, {0x00, 0x10, 0x00, 0x50}}
	n := noise(2)
	for range 20 {
		l = append(l, n.text(4))
	}
	for i, b := range l {
		l[i] = append(b, byte(byDivision(b, checks()[0])))
	}
	return l
}

// P1.2: each of the forty bits is told by what it does, whatever the header.
func TestBitTellsEachBit(t *testing.T) {
	for _, h := range headers() {
		if x := sums.Syndrome(h); x != 0 {
			t.Fatalf("Syndrome(%x): %x", h, x)
		}
		for n := range 40 {
			x := sums.Syndrome(turn(h, n, 1))
			if got, ok := sums.Bit(x); got != n || !ok {
				t.Errorf("Bit(%x): %d, %t; bit %d of %x was turned over", x, got, ok, n, h)
			}
		}
	}
}

// P1.2: of all 256 syndromes forty tell a bit, and 0 and all others none.
func TestBitOfEverySyndrome(t *testing.T) {
	want := map[byte]int{}
	for n := range 40 {
		header := turn(make([]byte, 5), n, 1)
		want[byte(divide(header[:4], 0, checks()[0]))^header[4]] = n
	}
	if len(want) != 40 {
		t.Fatalf("%d syndromes of single bits", len(want))
	}
	for x := range 256 {
		n, found := want[byte(x)]
		if got, ok := sums.Bit(byte(x)); got != n || ok != found {
			t.Errorf("Bit(%x): %d, %t; not %d, %t", x, got, ok, n, found)
		}
	}
}

// P1.2: two bits turned over look like neither none nor one.
func TestTwoBitsTellNone(t *testing.T) {
	for _, h := range headers() {
		for n := range 40 {
			for m := range n {
				x := sums.Syndrome(turn(turn(h, n, 1), m, 1))
				if got, ok := sums.Bit(x); x == 0 || got != 0 || ok {
					t.Fatalf("bits %d and %d of %x: syndrome %x, Bit %d, %t", m, n, h, x, got, ok)
				}
			}
		}
	}
}

// P1.3: a bit that is turned over, of texts short and long.
func TestOneBitChangesChecks(t *testing.T) {
	n := noise(3)
	for _, c := range checks() {
		for _, many := range []int{1, 2, 3, 4, 5, 48, 200} {
			b := n.text(many)
			was := c.of(b)
			for from := range many * 8 {
				if c.of(turn(b, from, 1)) == was {
					t.Fatalf("%s(%x) with bit %d turned over", c.name, b, from)
				}
			}
		}
	}
}

// patterns are what may be turned over within so many bits in a row: all of it, or, of many bits, two of them, whole runs and some at random.
func patterns(degree int) []uint64 {
	var l []uint64
	if degree <= 10 {
		for p := uint64(1); p < 1<<degree; p++ {
			l = append(l, p)
		}
		return l
	}
	n := noise(4)
	for long := 1; long <= degree; long++ {
		l = append(l, 1<<long-1, 1<<(long-1)|1)
		for range 8 {
			l = append(l, (n.next()&(1<<long-1))|1)
		}
	}
	return l
}

// P1.3: bits in a row that are turned over, up to as many as the check has.
func TestRunsChangeChecks(t *testing.T) {
	n := noise(5)
	for _, c := range checks() {
		for many := 1; many <= 9; many++ {
			b := n.text(many)
			was := c.of(b)
			for _, p := range patterns(c.degree) {
				for from := 0; from+bits.Len64(p) <= many*8; from++ {
					if c.of(turn(b, from, p)) == was {
						t.Fatalf("%s(%x) with %x turned over from bit %d on", c.name, b, p, from)
					}
				}
			}
		}
	}
}

// P1.3: a run of up to eight bits is told by the syndrome, wherever it lies in the five bytes.
func TestRunsChangeSyndromes(t *testing.T) {
	for _, h := range headers() {
		for _, p := range patterns(8) {
			for from := 0; from+bits.Len64(p) <= 40; from++ {
				if sums.Syndrome(turn(h, from, p)) == 0 {
					t.Fatalf("%x with %x turned over from bit %d on", h, p, from)
				}
			}
		}
	}
}

// P1.3: one bit more than the check has may go unseen: the generator itself is such a run.
func TestTheGeneratorGoesUnseen(t *testing.T) {
	n := noise(6)
	for _, c := range checks() {
		b := n.text(9)
		run := bits.Reverse64(c.generator) >> (63 - c.degree)
		if c.of(turn(b, 17, run)) != c.of(b) {
			t.Errorf("%s(%x) with its generator turned over", c.name, b)
		}
	}
}

// P1.3: three texts of one length.
func TestExclusiveOrOfThree(t *testing.T) {
	n := noise(7)
	for _, c := range checks() {
		for many := range 60 {
			x, y, z, all := n.text(many), n.text(many), n.text(many), make([]byte, many)
			for i := range all {
				all[i] = x[i] ^ y[i] ^ z[i]
			}
			if got, want := c.of(all), c.of(x)^c.of(y)^c.of(z); got != want {
				t.Fatalf("%s(%x): %x, not %x", c.name, all, got, want)
			}
		}
	}
}

// R3 to R5: what is handed in stays as it is, nil is like empty, and an answer hangs on its arguments alone.
func TestRules(t *testing.T) {
	all := append(checks(), check{name: "Syndrome", of: func(b []byte) uint32 { return uint32(sums.Syndrome(b)) }})
	n := noise(8)
	memory := n.text(80)
	was := bytes.Clone(memory)
	for _, c := range all {
		if c.of(nil) != c.of([]byte{}) {
			t.Errorf("%s: nil isn't like empty", c.name)
		}
		for many := range 60 {
			got := c.of(memory[:many])
			if !bytes.Equal(memory, was) {
				t.Fatalf("%s changed its argument of %d bytes", c.name, many)
			}
			sums.Bit(byte(many))
			sums.Long(memory[many:])
			if again := c.of(bytes.Clone(memory[:many])); again != got {
				t.Errorf("%s of %d bytes: %x, then %x", c.name, many, got, again)
			}
		}
	}
}
