package cell_test

import (
	"bytes"
	"math"
	"testing"

	"trunkline/api"
	"trunkline/cell"
	"trunkline/header"
	"trunkline/hec"
)

type payload = [api.Payload]byte

var sides = []bool{false, true}

// noise makes cells by a fixed rule, so that every run has the same ones.
type noise uint64

func (n *noise) next() uint64 {
	*n = *n*6364136223846793005 + 1442695040888963407
	return uint64(*n) >> 32
}

func (n *noise) below(top int) int { return int(n.next() % uint64(top)) }

func (n *noise) payload() payload {
	var p payload
	for i := range p {
		p[i] = byte(n.next())
	}
	return p
}

// header is one that can be at that side.
func (n *noise) header(nni bool) api.Header {
	h := api.Header{Gfc: n.below(16), Vpi: n.below(256), Vci: n.below(65536), Pti: n.below(8), Clp: n.below(2)}
	if nni {
		h.Gfc, h.Vpi = 0, n.below(4096)
	}
	return h
}

// fullest is the header whose numbers are the greatest that can be.
func fullest(nni bool) api.Header {
	if nni {
		return api.Header{Vpi: 4095, Vci: 65535, Pti: 7, Clp: 1}
	}
	return api.Header{Gfc: 15, Vpi: 255, Vci: 65535, Pti: 7, Clp: 1}
}

// cells are some that can be at that side: all 0, all at their greatest, and others.
func cells(nni bool) []cell.Cell {
	ones := payload{}
	for i := range ones {
		ones[i] = 0xff
	}
	l := []cell.Cell{{}, {Header: fullest(nni)}, {Payload: ones}, {Header: fullest(nni), Payload: ones}}
	n := noise(11)
	for range 20 {
		l = append(l, cell.Cell{Header: n.header(nni), Payload: n.payload()})
	}
	return l
}

// bits are those of some bytes, each byte's highest one first.
func bits(b []byte) []byte {
	var l []byte
	for _, x := range b {
		for i := 7; i >= 0; i-- {
			l = append(l, x>>i&1)
		}
	}
	return l
}

// divided is the remainder of a row of bits, times x to the generator's degree, by long division: none of the program's own calls. The generator's bits are all of them, its highest one too.
func divided(row, generator []byte) int {
	degree := len(generator) - 1
	rest := append(append([]byte{}, row...), make([]byte, degree)...)
	for i := range row {
		if rest[i] == 1 {
			for j, g := range generator {
				rest[i+j] ^= g
			}
		}
	}
	number := 0
	for _, x := range rest[len(row):] {
		number = number<<1 | int(x)
	}
	return number
}

// The generators x^8 + x^2 + x + 1 and x^10 + x^9 + x^5 + x^4 + x + 1.
var (
	eight = []byte{1, 0, 0, 0, 0, 0, 1, 1, 1}
	ten   = []byte{1, 1, 0, 0, 0, 1, 1, 0, 0, 1, 1}
)

// laid is a cell's bytes, written from the chapters' words.
func laid(c cell.Cell, nni bool) []byte {
	word := c.Vpi<<20 | c.Vci<<4 | c.Pti<<1 | c.Clp
	if !nni {
		word |= c.Gfc << 28
	}
	b := []byte{byte(word >> 24), byte(word >> 16), byte(word >> 8), byte(word)}
	b = append(b, byte(divided(bits(b), eight))^0x55)
	return append(b, c.Payload[:]...)
}

// turn is bytes of their own with these bits turned over.
func turn(b []byte, places ...int) []byte {
	b = bytes.Clone(b)
	for _, n := range places {
		b[n/8] ^= 0x80 >> (n % 8)
	}
	return b
}

// told is what a receiver says of itself.
type told struct {
	careful           bool
	repaired, dropped int
}

func of(r *hec.Receiver) told { return told{r.Careful(), r.Repaired(), r.Dropped()} }

// repairing is a receiver behind a cell that was right, careful one behind a cell that was not.
func repairing() *hec.Receiver {
	r := &hec.Receiver{}
	cell.Parse(laid(cell.Cell{Header: api.Header{Vpi: 3, Vci: 33}}, false), r, false)
	return r
}

func careful() *hec.Receiver {
	r := repairing()
	cell.Parse(turn(laid(cell.Cell{}, false), 9), r, false)
	return r
}

// parsed asks for a cell, and holds the answer, and what the receiver says of itself, against what they should be.
func parsed(t *testing.T, b []byte, r *hec.Receiver, nni bool, want cell.Cell, e api.Errno, self told) {
	t.Helper()
	was := bytes.Clone(b)
	if got, is := cell.Parse(b, r, nni); got != want || is != e {
		t.Errorf("Parse(%x, nni %t): %+v, %d, not %+v, %d", b, nni, got, is, want, e)
	}
	if of(r) != self {
		t.Errorf("behind Parse(%x): %+v, not %+v", b, of(r), self)
	}
	if !bytes.Equal(b, was) {
		t.Errorf("Parse changed %x to %x", was, b)
	}
}

// P4.1: the chapter's example.
func TestExample(t *testing.T) {
	want := append([]byte{0, 0, 0, 0, 0x55}, make([]byte, 48)...)
	for _, nni := range sides {
		if b, e := cell.Build(cell.Cell{}, nni); !bytes.Equal(b, want) || e != api.OK {
			t.Errorf("Build, nni %t: %x, %d", nni, b, e)
		}
		parsed(t, want, &hec.Receiver{}, nni, cell.Cell{}, api.OK, told{})
	}
}

// P4.1: bytes that are written out, of one header at either side.
func TestBuildWrittenOut(t *testing.T) {
	c := cell.Cell{Header: api.Header{Vpi: 1, Vci: 5}, Payload: payload{0: 0xab, 1: 0xcd, 47: 0xef}}
	want := append(make([]byte, 0, 53), 0x00, 0x10, 0x00, 0x50, 0x40, 0xab, 0xcd)
	want = append(append(want, make([]byte, 45)...), 0xef)
	for _, nni := range sides {
		if b, e := cell.Build(c, nni); !bytes.Equal(b, want) || e != api.OK {
			t.Errorf("Build, nni %t: %x, %d, not %x", nni, b, e, want)
		}
	}
	idle := append([]byte{0, 0, 0, 1, 0x52}, make([]byte, 48)...)
	if b, e := cell.Build(cell.Cell{Header: api.Header{Clp: 1}}, false); !bytes.Equal(b, idle) || e != api.OK {
		t.Errorf("Build of an idle cell: %x, %d", b, e)
	}
}

// P4.1: bytes of all sorts of cells, held against the chapters' words.
func TestBuild(t *testing.T) {
	for _, nni := range sides {
		for _, c := range cells(nni) {
			b, e := cell.Build(c, nni)
			if !bytes.Equal(b, laid(c, nni)) || e != api.OK {
				t.Errorf("Build(%+v, nni %t): %x, %d", c, nni, b, e)
			}
		}
	}
}

// P4.1, R2: a header that can't be, at either side.
func TestBuildOfWrongHeaders(t *testing.T) {
	for _, nni := range sides {
		top := fullest(nni)
		for _, start := range []api.Header{{}, top} {
			h := start
			for i, field := range []*int{&h.Gfc, &h.Vpi, &h.Vci, &h.Pti, &h.Clp} {
				most := []int{top.Gfc, top.Vpi, top.Vci, top.Pti, top.Clp}[i]
				for _, x := range []int{-1, most + 1, 2*most + 2, most + 1<<32, math.MinInt, math.MaxInt, -most - 1} {
					h = start
					*field = x
					b, e := cell.Build(cell.Cell{Header: h, Payload: payload{1}}, nni)
					if len(b) != 0 || e != api.ErrArg {
						t.Errorf("Build(%+v, nni %t): %x, %d", h, nni, b, e)
					}
				}
			}
		}
	}
}

// P4.1: what can be at one side alone.
func TestBuildAtOneSide(t *testing.T) {
	for _, x := range []struct {
		h         api.Header
		user, nni api.Errno
	}{
		{api.Header{Gfc: 1}, api.OK, api.ErrArg},
		{api.Header{Gfc: 15, Vpi: 255}, api.OK, api.ErrArg},
		{api.Header{Vpi: 256}, api.ErrArg, api.OK},
		{api.Header{Vpi: 4095}, api.ErrArg, api.OK},
		{api.Header{Gfc: 1, Vpi: 256}, api.ErrArg, api.ErrArg},
	} {
		if _, e := cell.Build(cell.Cell{Header: x.h}, false); e != x.user {
			t.Errorf("%+v at the user side: %d", x.h, e)
		}
		if _, e := cell.Build(cell.Cell{Header: x.h}, true); e != x.nni {
			t.Errorf("%+v between switches: %d", x.h, e)
		}
	}
}

// P4.3: what was built is parsed, by any receiver, at the same side.
func TestBuiltIsParsed(t *testing.T) {
	for _, nni := range sides {
		for _, c := range cells(nni) {
			b, _ := cell.Build(c, nni)
			parsed(t, b, &hec.Receiver{}, nni, c, api.OK, told{})
			parsed(t, b, repairing(), nni, c, api.OK, told{})
			parsed(t, b, careful(), nni, c, api.OK, told{false, 1, 0})
		}
	}
}

// P4.1: the side says how the header is read.
func TestParseAtEitherSide(t *testing.T) {
	b := laid(cell.Cell{Header: api.Header{Gfc: 9, Vpi: 0x87, Vci: 300, Pti: 5, Clp: 1}}, false)
	user := cell.Cell{Header: api.Header{Gfc: 9, Vpi: 0x87, Vci: 300, Pti: 5, Clp: 1}}
	nni := cell.Cell{Header: api.Header{Vpi: 0x987, Vci: 300, Pti: 5, Clp: 1}}
	parsed(t, b, &hec.Receiver{}, false, user, api.OK, told{})
	parsed(t, b, &hec.Receiver{}, true, nni, api.OK, told{})
}

// P4.1: any bytes behind a header that is right are a cell, and are built again to what they were.
func TestAnyBytes(t *testing.T) {
	n := noise(4)
	for range 500 {
		var c cell.Cell
		c.Header, c.Payload = n.header(true), n.payload()
		b := laid(c, true)
		for _, nni := range sides {
			x, e := cell.Parse(b, &hec.Receiver{}, nni)
			if again, f := cell.Build(x, nni); e != api.OK || f != api.OK || !bytes.Equal(again, b) {
				t.Fatalf("%x, nni %t: %+v, %d, and again %x, %d", b, nni, x, e, again, f)
			}
		}
	}
}

// P4.1, R2: fewer and more than 53 bytes, none among them; a receiver isn't asked then, and a nil one doesn't matter.
func TestLengths(t *testing.T) {
	good := laid(cell.Cell{Header: api.Header{Vpi: 2, Vci: 40}, Payload: payload{7}}, false)
	bad := turn(good, 3)
	parsed(t, nil, &hec.Receiver{}, false, cell.Cell{}, api.ErrShort, told{})
	for _, start := range [][]byte{good, bad, turn(good, 3, 4)} {
		long := append(bytes.Clone(start), make([]byte, 200)...)
		for many := range len(long) {
			if many == 53 {
				continue
			}
			want := api.ErrShort
			if many > 53 {
				want = api.ErrTail
			}
			for _, nni := range sides {
				parsed(t, long[:many], &hec.Receiver{}, nni, cell.Cell{}, want, told{})
				parsed(t, long[:many], careful(), nni, cell.Cell{}, want, told{true, 1, 0})
				parsed(t, long[:many], nil, nni, cell.Cell{}, want, told{})
			}
		}
	}
}

// P4.1: a receiver that wasn't asked repairs, or is careful, as it did.
func TestReceiverThatIsNotAsked(t *testing.T) {
	c := cell.Cell{Header: api.Header{Vpi: 2, Vci: 40}, Payload: payload{7}}
	good := laid(c, false)
	r := &hec.Receiver{}
	parsed(t, turn(good, 1)[:52], r, false, cell.Cell{}, api.ErrShort, told{})
	parsed(t, append(turn(good, 1), 0), r, false, cell.Cell{}, api.ErrTail, told{})
	parsed(t, turn(good, 1), r, false, c, api.OK, told{true, 1, 0})
	parsed(t, good[:52], r, false, cell.Cell{}, api.ErrShort, told{true, 1, 0})
	parsed(t, append(turn(good), 0), r, false, cell.Cell{}, api.ErrTail, told{true, 1, 0})
	parsed(t, turn(good, 1), r, false, cell.Cell{}, api.ErrSum, told{true, 1, 1})
	parsed(t, good, r, false, c, api.OK, told{false, 1, 1})
}

// P4.1: each bit of the header, turned over, behind a cell that was right and by a careful receiver.
func TestEachBitOfTheHeader(t *testing.T) {
	for _, nni := range sides {
		for _, c := range cells(nni) {
			for n := range 40 {
				b := turn(laid(c, nni), n)
				parsed(t, b, &hec.Receiver{}, nni, c, api.OK, told{true, 1, 0})
				parsed(t, b, repairing(), nni, c, api.OK, told{true, 1, 0})
				parsed(t, b, careful(), nni, cell.Cell{}, api.ErrSum, told{true, 1, 1})
			}
		}
	}
}

// P4.1: two bits of the header are refused in either state.
func TestTwoBitsOfTheHeader(t *testing.T) {
	c := cell.Cell{Header: api.Header{Vpi: 200, Vci: 1000, Pti: 2}, Payload: payload{5, 6}}
	for i := range 40 {
		for j := range i {
			b := turn(laid(c, false), i, j)
			parsed(t, b, repairing(), false, cell.Cell{}, api.ErrSum, told{true, 0, 1})
			parsed(t, b, careful(), false, cell.Cell{}, api.ErrSum, told{true, 1, 1})
		}
	}
}

// P4.1: the payload is none of the receiver's, whatever is turned over in it.
func TestDamagedPayloadIsParsed(t *testing.T) {
	c := cell.Cell{Header: api.Header{Vpi: 200, Vci: 1000, Pti: 2}, Payload: payload{5, 6}}
	for n := range 384 {
		x := c
		x.Payload[n/8] ^= 0x80 >> (n % 8)
		parsed(t, turn(laid(c, false), 40+n), &hec.Receiver{}, false, x, api.OK, told{})
	}
}

// P4.1, R1: a nil receiver tells none, whether the header is right or not.
func TestNilReceiver(t *testing.T) {
	for _, nni := range sides {
		for _, c := range cells(nni) {
			parsed(t, laid(c, nni), nil, nni, cell.Cell{}, api.ErrSum, told{})
			parsed(t, turn(laid(c, nni), 17), nil, nni, cell.Cell{}, api.ErrSum, told{})
			parsed(t, turn(laid(c, nni), 17, 18), nil, nni, cell.Cell{}, api.ErrSum, told{})
		}
	}
}

// P4.1: long runs through one receiver, held against a second one that is handed the five bytes alone.
func TestLongRuns(t *testing.T) {
	for seed := range 10 {
		n := noise(seed + 70)
		r, beside := &hec.Receiver{}, &hec.Receiver{}
		for range 300 {
			c := cell.Cell{Header: n.header(seed%2 == 1), Payload: n.payload()}
			b := laid(c, seed%2 == 1)
			for range n.below(4) {
				b = turn(b, n.below(40))
			}
			want, e := cell.Cell{}, api.ErrSum
			if four, ok := beside.Take([5]byte(b)); ok {
				h, _ := header.Unpack(four[:], seed%2 == 1)
				want, e = cell.Cell{Header: h, Payload: c.Payload}, api.OK
			}
			parsed(t, b, r, seed%2 == 1, want, e, of(beside))
		}
	}
}

// R3: what is answered is memory of its own.
func TestOwnMemory(t *testing.T) {
	c := cell.Cell{Header: api.Header{Vpi: 1, Vci: 5}, Payload: payload{1, 2, 3}}
	one, _ := cell.Build(c, false)
	other, _ := cell.Build(c, false)
	x, _ := cell.Parse(one, &hec.Receiver{}, false)
	for i := range one {
		one[i] = 0xee
	}
	if x != c || !bytes.Equal(other, laid(c, false)) {
		t.Errorf("changed with the bytes: %+v, %x", x, other)
	}
	_ = append(other[:5], 0xdd)
	if again, _ := cell.Build(c, false); !bytes.Equal(again, laid(c, false)) {
		t.Errorf("built again: %x", again)
	}
}

// P4.2: Idle and Unassigned beside every other kind, whatever is carried.
func TestEmptyByKinds(t *testing.T) {
	seen := map[int]bool{}
	for _, x := range []struct {
		h     api.Header
		kind  int
		empty bool
	}{
		{api.Header{}, header.Unassigned, true},
		{api.Header{Pti: 7}, header.Unassigned, true},
		{api.Header{Gfc: 15, Pti: 3}, header.Unassigned, true},
		{api.Header{Clp: 1}, header.Idle, true},
		{api.Header{Gfc: 3, Clp: 1}, header.Idle, true},
		{api.Header{Pti: 1, Clp: 1}, header.Reserved, false},
		{api.Header{Vpi: 1}, header.Reserved, false},
		{api.Header{Vpi: 1, Clp: 1}, header.Reserved, false},
		{api.Header{Vci: 1}, header.User, false},
		{api.Header{Vci: 1, Clp: 1}, header.User, false},
		{api.Header{Vci: 3}, header.PathSegment, false},
		{api.Header{Vci: 4}, header.PathEnd, false},
		{api.Header{Vci: 40, Pti: 4}, header.Segment, false},
		{api.Header{Vci: 40, Pti: 5}, header.End, false},
		{api.Header{Vci: 40, Pti: 6}, header.Rm, false},
		{api.Header{Vci: 6, Pti: 6}, header.PathRm, false},
		{api.Header{Vci: 40, Pti: 7}, header.Reserved, false},
	} {
		if k := header.Kind(x.h); k != x.kind {
			t.Errorf("the kind of %+v: %d", x.h, k)
		}
		seen[x.kind] = true
		for _, p := range []payload{{}, {0x6a}, {47: 1}} {
			if got := cell.Empty(cell.Cell{Header: x.h, Payload: p}); got != x.empty {
				t.Errorf("Empty of %+v: %t", x.h, got)
			}
		}
	}
	if len(seen) != header.Reserved {
		t.Errorf("kinds that were seen: %d", len(seen))
	}
}

// P4.2, R1: all sorts of headers, those that can't be too, against the sentence on kinds.
func TestEmpty(t *testing.T) {
	odd := []int{math.MinInt, -1, 0, 1, 2, 3, 4, 5, 6, 7, 8, 256, 65536, 1 << 32, math.MaxInt}
	for _, vpi := range odd {
		for _, vci := range odd {
			for _, pti := range odd {
				for _, clp := range odd {
					h := api.Header{Vpi: vpi, Vci: vci, Pti: pti, Clp: clp}
					want := vpi == 0 && vci == 0 && (clp == 0 || pti == 0 && clp == 1)
					if got := cell.Empty(cell.Cell{Header: h}); got != want {
						t.Errorf("Empty of %+v: %t", h, got)
					}
				}
			}
		}
	}
}

// check is a payload's, by long division of its first 374 bits.
func check(p payload) int { return divided(bits(p[:])[:374], ten) }

func payloads() []payload {
	var ones, tens payload
	for i := range ones {
		ones[i], tens[i] = 0xff, 0x6a
	}
	l := []payload{{}, ones, tens, {0: 0x80}, {45: 1}, {46: 4}, {46: 3}, {46: 2}, {47: 1}, {47: 0xff}, {46: 3, 47: 0xff}}
	n := noise(8)
	for range 20 {
		l = append(l, n.payload())
	}
	return l
}

// P4.2: checks that are written out: the powers of x from 10 on are the remainders of the last bits ahead of the check.
func TestSealWrittenOut(t *testing.T) {
	for _, x := range []struct{ p, want payload }{
		{payload{}, payload{}},
		{payload{46: 3, 47: 0xff}, payload{}},
		{payload{46: 0x04}, payload{46: 0x06, 47: 0x33}},
		{payload{46: 0x07, 47: 0xff}, payload{46: 0x06, 47: 0x33}},
		{payload{46: 0x08}, payload{46: 0x0a, 47: 0x55}},
		{payload{46: 0x0c}, payload{46: 0x0c, 47: 0x66}},
	} {
		if got := cell.Seal(x.p); got != x.want {
			t.Errorf("Seal of .. %x: .. %x, not %x", x.p[45:], got[45:], x.want[45:])
		}
	}
}

// P4.2: the first 374 bits stay, and the last ten are their remainder.
func TestSeal(t *testing.T) {
	for _, p := range payloads() {
		want := p
		want[46] = p[46]&0xfc | byte(check(p)>>8)
		want[47] = byte(check(p))
		if got := cell.Seal(p); got != want {
			t.Errorf("Seal(%x): %x, not %x", p, got, want)
		}
	}
	for n := range 374 {
		var p payload
		p[n/8] = 0x80 >> (n % 8)
		want := p
		want[46] |= byte(check(p) >> 8)
		want[47] = byte(check(p))
		if got := cell.Seal(p); got != want {
			t.Errorf("Seal of the bit %d: %x, not %x", n, got, want)
		}
	}
}

// P4.2: of all that the last ten bits can be, Seal looks at none, and one alone is sealed.
func TestLastTenBits(t *testing.T) {
	for _, p := range payloads() {
		want := cell.Seal(p)
		for last := range 1024 {
			x := p
			x[46], x[47] = p[46]&0xfc|byte(last>>8), byte(last)
			if got := cell.Seal(x); got != want {
				t.Fatalf("Seal(%x): %x, not %x", x, got, want)
			}
			if got := cell.Sealed(x); got != (last == check(p)) {
				t.Fatalf("Sealed(%x): %t", x, got)
			}
		}
	}
}

// P4.2: what was sealed is sealed, and sealing it again changes nothing.
func TestSealedIsSealed(t *testing.T) {
	for _, p := range payloads() {
		s := cell.Seal(p)
		if !cell.Sealed(s) || cell.Seal(s) != s {
			t.Errorf("Seal(%x): %x, sealed: %t", p, s, cell.Sealed(s))
		}
	}
}

// P4.3: whatever is turned over within ten bits in a row, at any place, both ends too.
func TestTenBitsInARow(t *testing.T) {
	all := payloads()
	for i, p := range all {
		s := cell.Seal(p)
		for from := range 384 {
			// One payload is gone through whole, the others at both ends.
			if i != len(all)-1 && from > 12 && from < 360 {
				continue
			}
			for row := 512; row < 1024; row++ {
				x, fits := struck(s, from, row)
				if fits && cell.Sealed(x) {
					t.Fatalf("sealed, though %010b from the bit %d on was turned over in %x", row, from, s)
				}
			}
		}
	}
}

// struck is a payload with up to ten bits turned over from one on, the row's highest bit first, if they are all within it.
func struck(p payload, from, row int) (payload, bool) {
	for i := range 10 {
		if row>>(9-i)&1 == 0 {
			continue
		}
		n := from + i
		if n >= 384 {
			return p, false
		}
		p[n/8] ^= 0x80 >> (n % 8)
	}
	return p, true
}

// P4.2, P4.3: a sealed payload comes through a cell as it was, and damage on the way is told.
func TestSealedOnItsWay(t *testing.T) {
	n := noise(21)
	for range 50 {
		c := cell.Cell{Header: n.header(false), Payload: cell.Seal(n.payload())}
		b, _ := cell.Build(c, false)
		if x, e := cell.Parse(b, &hec.Receiver{}, false); e != api.OK || !cell.Sealed(x.Payload) {
			t.Errorf("sealed, and then not: %x, %d", x.Payload, e)
		}
		x, e := cell.Parse(turn(b, 40+n.below(384)), &hec.Receiver{}, false)
		if e != api.OK || cell.Sealed(x.Payload) {
			t.Errorf("damaged, and not told: %x, %d", x.Payload, e)
		}
	}
}
