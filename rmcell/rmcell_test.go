package rmcell_test

import (
	"math"
	"slices"
	"testing"

	"trunkline/api"
	"trunkline/cell"
	"trunkline/header"
	"trunkline/hec"
	"trunkline/rate"
	"trunkline/rmcell"
)

type payload = [api.Payload]byte

// codes is how many numbers of sixteen bits there are.
const codes = 1 << 16

// The least code that can be beside 0, and the greatest one.
const (
	leastCode = 0x4000
	mostCode  = 0x7fff
)

// noise makes numbers by a fixed rule, so that every run has the same ones.
type noise uint64

func (n *noise) below(most int) int {
	*n = *n*6364136223846793005 + 1442695040888963407
	return int((uint64(*n) >> 32) % uint64(most))
}

func (n *noise) yes() bool { return n.below(2) == 1 }

// code is one that can be: 0 now and then, often one at an edge of M.
func (n *noise) code() uint16 {
	switch n.below(8) {
	case 0:
		return 0
	case 1:
		return uint16(leastCode + 512*n.below(32))
	case 2:
		return uint16(leastCode + 512*n.below(32) + 511)
	}
	return uint16(leastCode + n.below(leastCode))
}

// slow is a code of small E, where what is cut off is told most often.
func (n *noise) slow() uint16 { return uint16(leastCode + n.below(512*6)) }

func (n *noise) long() uint32 { return uint32(n.below(codes)*codes + n.below(codes)) }

func (n *noise) rm() rmcell.Rm {
	return rmcell.Rm{
		Back: n.yes(), Near: n.yes(), Ci: n.yes(), Ni: n.yes(), Ra: n.yes(),
		Er: n.code(), Ccr: n.code(), Mcr: n.code(),
		Ql: n.long(), Sn: n.long(),
	}
}

// canBe is the chapter's words on a code, in numbers: none of layer 12's calls.
func canBe(code int) bool { return code == 0 || code >= leastCode && code <= mostCode }

// flagged is a Rm with the flags of a number, Back's bit the highest one of five.
func flagged(r rmcell.Rm, row int) rmcell.Rm {
	r.Back, r.Near, r.Ci, r.Ni, r.Ra = row&16 != 0, row&8 != 0, row&4 != 0, row&2 != 0, row&1 != 0
	return r
}

// withRates are three Rms, each with a code as another one of its rates.
func withRates(r rmcell.Rm, code uint16) [3]rmcell.Rm {
	l := [3]rmcell.Rm{r, r, r}
	l[0].Er, l[1].Ccr, l[2].Mcr = code, code, code
	return l
}

// ten is x^10 + x^9 + x^5 + x^4 + x + 1, the highest power first.
var ten = []byte{1, 1, 0, 0, 0, 1, 1, 0, 0, 1, 1}

// sealed lays a check by long division of the first 374 bits: none of the program's own calls.
func sealed(p payload) payload {
	var row [384]byte
	for i := range 374 {
		row[i] = p[i/8] >> (7 - i%8) & 1
	}
	for i := range 374 {
		if row[i] == 1 {
			for j, g := range ten {
				row[i+j] ^= g
			}
		}
	}
	p[46] &= 0xfc
	p[47] = 0
	for i := 374; i < 384; i++ {
		p[i/8] |= row[i] << (7 - i%8)
	}
	return p
}

// unsealed is a payload written from the chapter's words, place by place, with 0 for its check.
func unsealed(r rmcell.Rm) payload {
	p := payload{0: 1}
	for _, x := range []struct {
		set   bool
		worth byte
	}{{r.Back, 128}, {r.Near, 64}, {r.Ci, 32}, {r.Ni, 16}, {r.Ra, 8}} {
		if x.set {
			p[1] += x.worth
		}
	}
	p[2], p[3] = byte(r.Er/256), byte(r.Er%256)
	p[4], p[5] = byte(r.Ccr/256), byte(r.Ccr%256)
	p[6], p[7] = byte(r.Mcr/256), byte(r.Mcr%256)
	p[8], p[9], p[10], p[11] = byte(r.Ql/256/256/256), byte(r.Ql/256/256%256), byte(r.Ql/256%256), byte(r.Ql%256)
	p[12], p[13], p[14], p[15] = byte(r.Sn/256/256/256), byte(r.Sn/256/256%256), byte(r.Sn/256%256), byte(r.Sn%256)
	for i := 16; i < 46; i++ {
		p[i] = 0x6a
	}
	return p
}

func laid(r rmcell.Rm) payload { return sealed(unsealed(r)) }

// some are Rms of all sorts that can be: all 0, all at their greatest, and others.
func some() []rmcell.Rm {
	top := rmcell.Rm{
		Back: true, Near: true, Ci: true, Ni: true, Ra: true,
		Er: mostCode, Ccr: mostCode, Mcr: mostCode,
		Ql: math.MaxUint32, Sn: math.MaxUint32,
	}
	l := []rmcell.Rm{{}, top, {Er: leastCode, Ccr: leastCode, Mcr: leastCode}, {Ci: true, Er: 0x5201, Ccr: 0x6aff, Mcr: 0x4100, Ql: 0x01020304, Sn: 0xfffefdfc}}
	n := noise(13)
	for range 30 {
		l = append(l, n.rm())
	}
	return l
}

// packed holds Pack of what can be against the chapter's words, and Unpack of that against what it was.
func packed(t *testing.T, r rmcell.Rm) {
	t.Helper()
	p, e := rmcell.Pack(r)
	if p != laid(r) || e != api.OK {
		t.Fatalf("Pack(%+v): %x, %d, not %x", r, p, e, laid(r))
	}
	if again, e := rmcell.Unpack(p); again != r || e != api.OK {
		t.Fatalf("Unpack(%x): %+v, %d, not %+v", p, again, e, r)
	}
}

// refused holds an error of Unpack, beside which there is nothing else.
func refused(t *testing.T, p payload, want api.Errno) {
	t.Helper()
	if r, e := rmcell.Unpack(p); r != (rmcell.Rm{}) || e != want {
		t.Fatalf("Unpack(%x): %+v, %d, not the error %d", p, r, e, want)
	}
}

// P13.1: the chapter's example.
func TestExample(t *testing.T) {
	p, e := rmcell.Pack(rmcell.Rm{Er: 0x7fff})
	if [4]byte(p[:4]) != [4]byte{0x01, 0x00, 0x7f, 0xff} || e != api.OK {
		t.Errorf("Pack: %x, %d", p, e)
	}
}

// P13.1: payloads that are written out.
func TestWrittenOut(t *testing.T) {
	for _, x := range []struct {
		r    rmcell.Rm
		head [16]byte
	}{
		{rmcell.Rm{}, [16]byte{1}},
		{
			rmcell.Rm{Back: true, Ci: true, Ra: true, Er: 0x7fff, Ccr: 0x5201, Mcr: 0x4000, Ql: 0x01020304, Sn: 0xa0b0c0d0},
			[16]byte{0x01, 0xa8, 0x7f, 0xff, 0x52, 0x01, 0x40, 0x00, 0x01, 0x02, 0x03, 0x04, 0xa0, 0xb0, 0xc0, 0xd0},
		},
		{
			rmcell.Rm{Near: true, Ni: true, Er: 0x4001, Ccr: 0x6aff, Mcr: 0x7e00, Ql: 0xfffefdfc, Sn: 1},
			[16]byte{0x01, 0x50, 0x40, 0x01, 0x6a, 0xff, 0x7e, 0x00, 0xff, 0xfe, 0xfd, 0xfc, 0x00, 0x00, 0x00, 0x01},
		},
	} {
		p, e := rmcell.Pack(x.r)
		if [16]byte(p[:16]) != x.head || e != api.OK {
			t.Errorf("Pack(%+v): %x, %d", x.r, p, e)
		}
		for i := 16; i < 46; i++ {
			if p[i] != 0x6a {
				t.Errorf("Pack(%+v): the byte %d is %x", x.r, i, p[i])
			}
		}
		if p[46] > 3 || !cell.Sealed(p) {
			t.Errorf("Pack(%+v): ends with %x, sealed: %t", x.r, p[46:], cell.Sealed(p))
		}
		packed(t, x.r)
	}
}

// P13.1, P13.4: all sorts of them.
func TestPack(t *testing.T) {
	for _, r := range some() {
		packed(t, r)
	}
	n := noise(31)
	for range 5000 {
		packed(t, n.rm())
	}
}

// P13.1: each flag by itself, in its own bit.
func TestEachFlag(t *testing.T) {
	for _, x := range []struct {
		r    rmcell.Rm
		want byte
	}{
		{rmcell.Rm{Back: true}, 0x80},
		{rmcell.Rm{Near: true}, 0x40},
		{rmcell.Rm{Ci: true}, 0x20},
		{rmcell.Rm{Ni: true}, 0x10},
		{rmcell.Rm{Ra: true}, 0x08},
		{rmcell.Rm{Back: true, Near: true, Ci: true, Ni: true, Ra: true}, 0xf8},
	} {
		if p, e := rmcell.Pack(x.r); p[1] != x.want || e != api.OK {
			t.Errorf("Pack(%+v): %x, %d", x.r, p, e)
		}
		packed(t, x.r)
	}
}

// P13.1: all the flags there may be together.
func TestAllFlags(t *testing.T) {
	for _, start := range some() {
		for row := range 32 {
			r := flagged(start, row)
			if p, _ := rmcell.Pack(r); int(p[1]) != row*8 {
				t.Errorf("Pack(%+v): %x", r, p)
			}
			packed(t, r)
		}
	}
}

// P13.1: each rate at its edges, and at codes that can't be for one reason each; Unpack of those.
func TestRatesAtEdges(t *testing.T) {
	start := rmcell.Rm{Ni: true, Er: 0x5000, Ccr: 0x5001, Mcr: 0x5002, Ql: 7, Sn: 9}
	for _, code := range []uint16{0, leastCode, leastCode + 1, 0x41ff, 0x4200, 0x5201, mostCode - 1, mostCode} {
		for _, r := range withRates(start, code) {
			packed(t, r)
		}
	}
	for _, code := range []uint16{0x0001, 0x0100, 0x01ff, 0x0200, 0x2000, 0x3e00, 0x3fff, 0x8000, 0x8001, 0xbfff, 0xc000, 0xd201, 0xffff} {
		for _, r := range withRates(start, code) {
			if p, e := rmcell.Pack(r); p != (payload{}) || e != api.ErrArg {
				t.Errorf("Pack(%+v): %x, %d", r, p, e)
			}
			refused(t, laid(r), api.ErrRate)
		}
	}
}

// P13.1: every code as each of the rates.
func TestEveryCode(t *testing.T) {
	start := rmcell.Rm{Ra: true, Er: mostCode, Ccr: 0, Mcr: leastCode, Ql: 1, Sn: 2}
	for code := range codes {
		for _, r := range withRates(start, uint16(code)) {
			if canBe(code) {
				// The check is divided out for some of them alone, which is enough with TestPack.
				if code%61 == 0 {
					packed(t, r)
				}
				p, e := rmcell.Pack(r)
				if again, f := rmcell.Unpack(p); e != api.OK || f != api.OK || again != r {
					t.Fatalf("Pack(%+v): %x, %d; Unpack: %+v, %d", r, p, e, again, f)
				}
				continue
			}
			if p, e := rmcell.Pack(r); p != (payload{}) || e != api.ErrArg {
				t.Fatalf("Pack(%+v): %x, %d", r, p, e)
			}
			refused(t, cell.Seal(unsealed(r)), api.ErrRate)
		}
	}
}

// P13.1: two or three rates that can't be are one error.
func TestRatesTogether(t *testing.T) {
	for row := range 8 {
		r := rmcell.Rm{Er: 0x4321, Ccr: 0x5432, Mcr: 0x6543}
		if row&1 != 0 {
			r.Er = 0x8000
		}
		if row&2 != 0 {
			r.Ccr = 1
		}
		if row&4 != 0 {
			r.Mcr = 0xffff
		}
		if row == 0 {
			packed(t, r)
			continue
		}
		if p, e := rmcell.Pack(r); p != (payload{}) || e != api.ErrArg {
			t.Errorf("Pack(%+v): %x, %d", r, p, e)
		}
		refused(t, laid(r), api.ErrRate)
	}
}

// P13.1: Ql and Sn at 0, at their greatest, and each of their bytes and bits by itself.
func TestNumbers(t *testing.T) {
	for _, r := range some() {
		for _, x := range []uint32{0, 1, 0x7fffffff, 0x80000000, math.MaxUint32, 0x01020304} {
			r.Ql, r.Sn = x, 0
			packed(t, r)
			r.Ql, r.Sn = 0, x
			packed(t, r)
		}
	}
	for place := range 4 {
		for b := range 256 {
			x := uint32(b) << (24 - 8*place)
			p, _ := rmcell.Pack(rmcell.Rm{Ql: x})
			q, _ := rmcell.Pack(rmcell.Rm{Sn: x})
			if int(p[8+place]) != b || int(q[12+place]) != b {
				t.Fatalf("the byte %d of %x: Ql %x, Sn %x", place, x, p, q)
			}
			packed(t, rmcell.Rm{Er: leastCode, Ql: x, Sn: ^x})
		}
	}
}

// P13.1: each error of Unpack by itself.
func TestEachError(t *testing.T) {
	r := rmcell.Rm{Back: true, Er: 0x5000, Ccr: 0x5001, Mcr: 0x5002, Ql: 7, Sn: 9}
	good := unsealed(r)
	unsound, strange, formless, rateless := sealed(good), good, good, good
	unsound[47] ^= 1
	strange[0] = 2
	formless[30] = 0x6b
	rateless[4] = 0x80
	refused(t, unsound, api.ErrSum)
	refused(t, sealed(strange), api.ErrKind)
	refused(t, sealed(formless), api.ErrForm)
	refused(t, sealed(rateless), api.ErrRate)
	if x, e := rmcell.Unpack(sealed(good)); x != r || e != api.OK {
		t.Errorf("Unpack with none of them: %+v, %d", x, e)
	}
}

// P13.1: of several errors the one that the promise names first, in all the ways in which they may come together.
func TestErrorsTogether(t *testing.T) {
	for _, fault := range []struct {
		place int
		other byte
	}{{1, 0x01}, {1, 0x06}, {16, 0x01}, {45, 0x80}, {46, 0x04}, {46, 0x80}} {
		for row := range 16 {
			p, want := unsealed(rmcell.Rm{Er: 0x5000, Sn: 3}), api.OK
			if row&1 != 0 {
				p[6], want = 0xc0, api.ErrRate
			}
			if row&2 != 0 {
				p[fault.place] ^= fault.other
				want = api.ErrForm
			}
			if row&4 != 0 {
				p[0], want = 0, api.ErrKind
			}
			p = sealed(p)
			if row&8 != 0 {
				p[47] ^= 0x10
				want = api.ErrSum
			}
			if want != api.OK {
				refused(t, p, want)
			} else if _, e := rmcell.Unpack(p); e != api.OK {
				t.Errorf("Unpack(%x): %d", p, e)
			}
		}
	}
}

// P13.1: the first byte as each other one, sealed anew.
func TestOtherKinds(t *testing.T) {
	for _, r := range some() {
		for b := range 256 {
			p := unsealed(r)
			p[0] = byte(b)
			if b != 1 {
				refused(t, sealed(p), api.ErrKind)
			}
		}
	}
}

// P13.1: each of the thirty bytes as each other one, sealed anew.
func TestFixedBytes(t *testing.T) {
	for _, r := range some()[:4] {
		for place := 16; place < 46; place++ {
			for b := range 256 {
				p := unsealed(r)
				p[place] = byte(b)
				if b != 0x6a {
					refused(t, sealed(p), api.ErrForm)
				}
			}
		}
	}
}

// P13.1: the three bits behind the flags, and the six ahead of the check, in each other way, sealed anew.
func TestFixedBits(t *testing.T) {
	for _, r := range some() {
		for low := range 8 {
			for high := range 64 {
				p := unsealed(r)
				p[1] |= byte(low)
				p[46] |= byte(high << 2)
				if low != 0 || high != 0 {
					refused(t, sealed(p), api.ErrForm)
				}
			}
		}
	}
}

// P13.1: what is fixed is told ahead of rates that can't be, each of them.
func TestFormAheadOfRates(t *testing.T) {
	for _, code := range []uint16{1, 0x3fff, 0x8000, 0xffff} {
		for _, r := range withRates(rmcell.Rm{Er: 0x5000}, code) {
			for n := range 384 {
				p := unsealed(r)
				p[n/8] ^= 0x80 >> (n % 8)
				fixed := n >= 13 && n < 16 || n >= 128 && n < 374
				if fixed {
					refused(t, sealed(p), api.ErrForm)
				}
			}
		}
	}
}

// P13.1: payloads that aren't sealed: all that the last ten bits can be, but for one; and all 0s, which are sealed.
func TestUnsealed(t *testing.T) {
	for _, r := range some()[:8] {
		good := laid(r)
		for last := range 1024 {
			p := unsealed(r)
			p[46], p[47] = byte(last>>8), byte(last)
			if p != good {
				refused(t, p, api.ErrSum)
			}
		}
	}
	refused(t, payload{47: 1}, api.ErrSum)
	refused(t, payload{0: 1}, api.ErrSum)
	refused(t, payload{}, api.ErrKind)
	var ones payload
	for i := range ones {
		ones[i] = 0xff
	}
	refused(t, ones, api.ErrSum)
	refused(t, sealed(ones), api.ErrKind)
}

// P13.1: each single bit of a right payload turned over.
func TestEachBit(t *testing.T) {
	for _, r := range some() {
		for n := range 384 {
			p := laid(r)
			p[n/8] ^= 0x80 >> (n % 8)
			refused(t, p, api.ErrSum)
		}
	}
}

// P13.1: each single bit turned over and sealed anew tells what the bit is for.
func TestEachBitSealedAnew(t *testing.T) {
	for _, r := range some() {
		for n := range 374 {
			p := unsealed(r)
			p[n/8] ^= 0x80 >> (n % 8)
			p = sealed(p)
			got, e := rmcell.Unpack(p)
			want := api.OK
			switch {
			case n < 8:
				want = api.ErrKind
			case n >= 13 && n < 16 || n >= 128:
				want = api.ErrForm
			case n >= 16 && n < 64:
				code := int(p[n/16*2])*256 + int(p[n/16*2+1])
				if !canBe(code) {
					want = api.ErrRate
				}
			}
			if e != want || e == api.OK && (got == r || laid(got) != p) || e != api.OK && got != (rmcell.Rm{}) {
				t.Fatalf("Unpack(%x), the bit %d: %+v, %d, not %d", p, n, got, e, want)
			}
		}
	}
}

// P13.4: what is unpacked is packed to what it was, and nothing else is unpacked: payloads of all sorts, most of them right but for one byte.
func TestUnpackedIsPacked(t *testing.T) {
	n := noise(77)
	seen := map[api.Errno]int{}
	for range 20000 {
		p := unsealed(n.rm())
		for range n.below(3) {
			p[n.below(17)] = byte(n.below(256))
		}
		p = cell.Seal(p)
		r, e := rmcell.Unpack(p)
		seen[e]++
		again, f := rmcell.Pack(r)
		if e == api.OK && (again != p || f != api.OK) {
			t.Fatalf("Unpack(%x): %+v, and packed %x, %d", p, r, again, f)
		}
		if e != api.OK && r != (rmcell.Rm{}) {
			t.Fatalf("Unpack(%x): %+v, %d", p, r, e)
		}
	}
	for _, e := range []api.Errno{api.OK, api.ErrKind, api.ErrForm, api.ErrRate} {
		if seen[e] == 0 {
			t.Errorf("none was told %d", e)
		}
	}
}

// P13.4: what was packed comes through a cell of its kind as it was, and is told damaged, if a bit of it is.
func TestOnItsWay(t *testing.T) {
	for i, r := range some() {
		p, _ := rmcell.Pack(r)
		c := cell.Cell{Header: api.Header{Vpi: 1, Vci: 40, Pti: 6}, Payload: p}
		b, e := cell.Build(c, false)
		if header.Kind(c.Header) != header.Rm || e != api.OK {
			t.Fatalf("Build(%+v): %d", c, e)
		}
		x, e := cell.Parse(b, &hec.Receiver{}, false)
		if got, f := rmcell.Unpack(x.Payload); e != api.OK || f != api.OK || got != r {
			t.Errorf("%+v: %d, and then %+v, %d", r, e, got, f)
		}
		b[5+i] ^= 4
		x, _ = cell.Parse(b, &hec.Receiver{}, false)
		refused(t, x.Payload, api.ErrSum)
	}
}

// mark is Mark by the words of the promise.
func mark(r rmcell.Rm, er int, ci, ni bool) rmcell.Rm {
	if canBe(er) && er < int(r.Er) {
		r.Er = uint16(er)
	}
	if ci {
		r.Ci = true
	}
	if ni {
		r.Ni = true
	}
	return r
}

// P13.2: Er: less than its own, the same, greater, and one that can't be.
func TestMarkEr(t *testing.T) {
	r := rmcell.Rm{Back: true, Ra: true, Er: 0x5201, Ccr: 0x5300, Mcr: 0x4100, Ql: 5, Sn: 6}
	for _, x := range []struct{ er, want uint16 }{
		{0x5200, 0x5200}, {0x5000, 0x5000}, {leastCode, leastCode}, {0, 0},
		{0x5201, 0x5201},
		{0x5202, 0x5201}, {0x6000, 0x5201}, {mostCode, 0x5201},
		{0x0001, 0x5201}, {0x0200, 0x5201}, {0x3fff, 0x5201},
		{0x8000, 0x5201}, {0x9000, 0x5201}, {0xc000, 0x5201}, {0xd000, 0x5201}, {0xffff, 0x5201},
	} {
		want := r
		want.Er = x.want
		if got := rmcell.Mark(r, x.er, false, false); got != want {
			t.Errorf("Mark(%+v, %x): %+v", r, x.er, got)
		}
	}
}

// P13.2: every code, on its own Er at edges.
func TestMarkEveryEr(t *testing.T) {
	for _, own := range []uint16{0, leastCode, leastCode + 1, 0x5201, mostCode - 1, mostCode} {
		r := rmcell.Rm{Near: true, Er: own, Ccr: 0x4444, Mcr: 0x4333, Ql: 1, Sn: 2}
		for er := range codes {
			if got := rmcell.Mark(r, uint16(er), false, false); got != mark(r, er, false, false) {
				t.Fatalf("Mark(%+v, %x): %+v", r, er, got)
			}
		}
	}
}

// P13.2: Ci and Ni, each by itself, both and neither, where they are set and where they aren't; all else stays.
func TestMarkFlags(t *testing.T) {
	for _, start := range some() {
		for row := range 32 {
			r := flagged(start, row)
			for asked := range 4 {
				ci, ni := asked&1 != 0, asked&2 != 0
				for _, er := range []int{0, leastCode, int(r.Er), mostCode, 1, 0x8000} {
					got := rmcell.Mark(r, uint16(er), ci, ni)
					if got != mark(r, er, ci, ni) {
						t.Fatalf("Mark(%+v, %x, %t, %t): %+v", r, er, ci, ni, got)
					}
					if got.Ci != (r.Ci || ci) || got.Ni != (r.Ni || ni) || got.Back != r.Back || got.Near != r.Near || got.Ra != r.Ra {
						t.Fatalf("Mark(%+v, %x, %t, %t): %+v", r, er, ci, ni, got)
					}
				}
			}
		}
	}
}

// P13.2: an own Er that can't be gives way to a lesser one, as a number, and stays else.
func TestMarkOwnErThatCannotBe(t *testing.T) {
	for _, x := range []struct{ own, er, want uint16 }{
		{0x8000, 0x5000, 0x5000}, {0x8000, 0, 0}, {0xffff, mostCode, mostCode}, {0x8000, 0x8000, 0x8000}, {0x9000, 0x8000, 0x9000},
		{0x0001, 0x5000, 0x0001}, {0x0001, 0, 0}, {0x3fff, leastCode, 0x3fff}, {0x3fff, 0x0001, 0x3fff},
	} {
		if got := rmcell.Mark(rmcell.Rm{Er: x.own, Sn: 4}, x.er, false, true); got != (rmcell.Rm{Ni: true, Er: x.want, Sn: 4}) {
			t.Errorf("Mark of %x, %x: %+v", x.own, x.er, got)
		}
	}
}

// marking is what Mark is handed.
type marking struct {
	er     uint16
	ci, ni bool
}

func (m marking) on(r rmcell.Rm) rmcell.Rm { return rmcell.Mark(r, m.er, m.ci, m.ni) }

func markings() []marking {
	var l []marking
	for _, er := range []uint16{0, leastCode, 0x5200, 0x5201, mostCode, 0x0001, 0x8000, 0xffff} {
		for row := range 4 {
			l = append(l, marking{er, row&1 != 0, row&2 != 0})
		}
	}
	return l
}

// P13.4: two marks in both orders, and each of them twice.
func TestMarksInBothOrders(t *testing.T) {
	l := markings()
	for _, r := range some() {
		for _, one := range l {
			for _, other := range l {
				got := other.on(one.on(r))
				if got != one.on(other.on(r)) || got != one.on(got) || got != other.on(got) {
					t.Fatalf("marks %+v and %+v on %+v: %+v", one, other, r, got)
				}
			}
		}
	}
}

// P13.4: marks in any order never raise Er, nor take Ci or Ni away.
func TestRowsOfMarks(t *testing.T) {
	n := noise(99)
	for range 3000 {
		var row []marking
		for range 2 + n.below(6) {
			row = append(row, marking{uint16(n.below(codes)), n.below(4) == 0, n.below(4) == 0})
		}
		start := n.rm()
		first := start
		for _, m := range row {
			was := first
			first = m.on(first)
			if first.Er > was.Er || rate.Scaled(first.Er) > rate.Scaled(was.Er) || was.Ci && !first.Ci || was.Ni && !first.Ni {
				t.Fatalf("the mark %+v on %+v: %+v", m, was, first)
			}
			if _, e := rmcell.Pack(first); e != api.OK {
				t.Fatalf("the mark %+v on %+v can't be: %+v", m, was, first)
			}
		}
		for range 4 {
			i, j := n.below(len(row)), n.below(len(row))
			row[i], row[j] = row[j], row[i]
			other := start
			for _, m := range row {
				other = m.on(other)
			}
			if other != first {
				t.Fatalf("%+v in the order %+v: %+v, and %+v", start, row, first, other)
			}
		}
	}
}

// P13.2: Turn of all flags: Back is set, Near isn't, and all else stays.
func TestTurn(t *testing.T) {
	for _, start := range some() {
		for row := range 32 {
			r := flagged(start, row)
			want := flagged(r, row|16)
			want.Near = false
			got := rmcell.Turn(r)
			if got != want || !got.Back || got.Near {
				t.Errorf("Turn(%+v): %+v", r, got)
			}
			if rmcell.Turn(got) != got {
				t.Errorf("Turn twice of %+v: %+v", r, rmcell.Turn(got))
			}
			if got != rmcell.Turn(flagged(r, row^8)) {
				t.Errorf("Turn(%+v) hangs on Near", r)
			}
			packed(t, got)
		}
	}
	odd := rmcell.Rm{Near: true, Er: 0x8000, Ccr: 1, Mcr: 0xffff}
	if got := rmcell.Turn(odd); got != (rmcell.Rm{Back: true, Er: 0x8000, Ccr: 1, Mcr: 0xffff}) {
		t.Errorf("Turn(%+v): %+v", odd, got)
	}
}

// coded is a code that can be, and its rate times 512, which the tests worked out by themselves.
type coded struct {
	code   uint16
	scaled int
}

// allCoded are all codes that can be, the least one first.
func allCoded() []coded {
	l := []coded{{0, 0}}
	power := 512
	for e := range 32 {
		for m := range 512 {
			l = append(l, coded{uint16(leastCode + 512*e + m), power + power/512*m})
		}
		power *= 2
	}
	return l
}

// searcher is Next by the words of the promise, and by a search of all codes that can be.
type searcher []coded

// scaled is that of any code: the highest bit plays no part, nor do E and M without Z.
func (l searcher) scaled(code uint16) int {
	low := int(code) % (codes / 2)
	if low < leastCode {
		return 0
	}
	return l[low-leastCode+1].scaled
}

// greatest goes through all of them, from the first to the last.
func (l searcher) greatest(scaled int) uint16 {
	code := uint16(0)
	for _, x := range l {
		if x.scaled <= scaled {
			code = x.code
		}
	}
	return code
}

// wanted is how much 512 times the rate is to be.
func (l searcher) wanted(now, peak, least uint16, r rmcell.Rm) int {
	s := l.scaled(now)
	if r.Ci {
		s -= (s - s%16) / 16
	} else if !r.Ni {
		p := l.scaled(peak)
		s += (p - p%16) / 16
	}
	for _, top := range []uint16{r.Er, peak} {
		if x := l.scaled(top); s > x {
			s = x
		}
	}
	if x := l.scaled(least); s < x {
		s = x
	}
	return s
}

func (l searcher) held(t *testing.T, now, peak, least uint16, r rmcell.Rm) {
	t.Helper()
	want := l.greatest(l.wanted(now, peak, least, r))
	if got := rmcell.Next(now, peak, least, r); got != want {
		t.Fatalf("Next(%x, %x, %x, %+v): %x, not %x", now, peak, least, r, got, want)
	}
}

// P13.3: numbers that are written out.
func TestNextWrittenOut(t *testing.T) {
	top := uint16(mostCode)
	for _, x := range []struct {
		name             string
		now, peak, least uint16
		r                rmcell.Rm
		want             uint16
	}{
		{"Ci takes a sixteenth: 1600 to 1500", rate.Code(1600), top, 0, rmcell.Rm{Ci: true, Er: top}, rate.Code(1500)},
		{"Ci counts ahead of Ni", rate.Code(1600), top, 0, rmcell.Rm{Ci: true, Ni: true, Er: top}, rate.Code(1500)},
		{"Ni alone changes nothing", rate.Code(1600), top, 0, rmcell.Rm{Ni: true, Er: top}, rate.Code(1600)},
		{"neither: a sixteenth of the peak more", rate.Code(1600), rate.Code(3200), 0, rmcell.Rm{Er: top}, rate.Code(1800)},
		{"Er decides, ahead of the peak", rate.Code(1600), rate.Code(3200), 0, rmcell.Rm{Er: rate.Code(800)}, rate.Code(800)},
		{"Er decides over Ci", rate.Code(1600), rate.Code(3200), 0, rmcell.Rm{Ci: true, Er: rate.Code(1400)}, rate.Code(1400)},
		{"Ci decides below Er", rate.Code(1600), rate.Code(3200), 0, rmcell.Rm{Ci: true, Er: rate.Code(1504)}, rate.Code(1500)},
		{"Er decides over Ni", rate.Code(1600), rate.Code(3200), 0, rmcell.Rm{Ni: true, Er: rate.Code(1400)}, rate.Code(1400)},
		{"the peak decides", rate.Code(3100), rate.Code(3200), 0, rmcell.Rm{Er: top}, rate.Code(3200)},
		{"the peak decides over now", rate.Code(6400), rate.Code(1600), 0, rmcell.Rm{Ci: true, Er: top}, rate.Code(1600)},
		{"the least decides over Er", rate.Code(1600), rate.Code(3200), rate.Code(100), rmcell.Rm{}, rate.Code(100)},
		{"the least decides over Ci", rate.Code(104), rate.Code(3200), rate.Code(100), rmcell.Rm{Ci: true, Er: top}, rate.Code(100)},
		{"the least above the peak", rate.Code(104), rate.Code(100), rate.Code(200), rmcell.Rm{Er: top}, rate.Code(200)},
		{"the least above the peak and Er", rate.Code(104), 0, top, rmcell.Rm{Ci: true}, top},
		{"the least above now", rate.Code(16), rate.Code(160), rate.Code(64), rmcell.Rm{Er: top}, rate.Code(64)},
		{"nothing at all", 0, 0, 0, rmcell.Rm{}, 0},
		{"now 0 with Ci", 0, top, 0, rmcell.Rm{Ci: true, Er: top}, 0},
		{"now 0 with Ni", 0, top, 0, rmcell.Rm{Ni: true, Er: top}, 0},
		{"now 0 goes up to a sixteenth of the peak", 0, top, 0, rmcell.Rm{Er: top}, 0x77ff},
		{"now 0 with the least peak whose sixteenth is a rate", 0, 0x4800, 0, rmcell.Rm{Er: top}, 0x4000},
		{"now 0 with one peak less", 0, 0x47ff, 0, rmcell.Rm{Er: top}, 0},
		{"a peak of 0", top, 0, 0, rmcell.Rm{Er: top}, 0},
		{"an Er of 0", top, top, 0, rmcell.Rm{}, 0},
		{"the greatest of all", top, top, top, rmcell.Rm{Er: top}, top},
		{"the greatest with Ci", top, top, 0, rmcell.Rm{Ci: true, Er: top}, 0x7fbf},
		{"1 with Ci goes to none", 0x4000, top, 0, rmcell.Rm{Ci: true, Er: top}, 0},
		{"545 of 512 with Ci: less 34 is 511", 0x4021, top, 0, rmcell.Rm{Ci: true, Er: top}, 0},
		{"546 of 512 with Ci: less 34 is 512", 0x4022, top, 0, rmcell.Rm{Ci: true, Er: top}, 0x4000},
		{"1023 of 512 with Ci: less 63 is 960", 0x41ff, top, 0, rmcell.Rm{Ci: true, Er: top}, 0x41c0},
		{"512 of 512, of 1023 a sixteenth more: 575", 0x4000, 0x41ff, 0, rmcell.Rm{Er: top}, 0x403f},
		{"1023 of 512, 64 more: 1087, of which there is none", 0x41ff, 0x4200, 0, rmcell.Rm{Er: top}, 0x4200},
		{"1023 of 512, 128 more: 1151, cut off to 1150", 0x41ff, 0x4400, 0, rmcell.Rm{Er: top}, 0x423f},
	} {
		if got := rmcell.Next(x.now, x.peak, x.least, x.r); got != x.want {
			t.Errorf("%s: Next(%x, %x, %x, %+v): %x, not %x", x.name, x.now, x.peak, x.least, x.r, got, x.want)
		}
	}
}

// ways are with Ci, with Ni, with both, and with neither.
func ways(er uint16) [4]rmcell.Rm {
	return [4]rmcell.Rm{{Er: er}, {Ci: true, Er: er}, {Ni: true, Er: er}, {Ci: true, Ni: true, Er: er}}
}

// P13.3: all rows of edges, those that can't be among them.
func TestNextOfEdges(t *testing.T) {
	l := searcher(allCoded())
	edges := []uint16{0, 0x0001, 0x3fff, leastCode, 0x4022, 0x41ff, 0x47ff, 0x5201, 0x6fff, mostCode, 0x8000, 0xc000, 0xffff}
	for _, now := range edges {
		for _, peak := range edges {
			for _, least := range edges {
				for i, er := range edges {
					for j, r := range ways(er) {
						// A search of all is dear, so of most rows one way of four is searched for.
						if (i+j)%4 == 0 {
							l.held(t, now, peak, least, r)
						}
					}
				}
			}
		}
	}
}

// P13.3: every code that now can be, and that can't, with nothing in its way: what Ci and Ni do alone.
func TestNextOfEveryNow(t *testing.T) {
	l := searcher(allCoded())
	for code := range codes {
		for i, r := range ways(mostCode) {
			if code%4 == i || code >= leastCode && code < leastCode+512*5 {
				l.held(t, uint16(code), mostCode, 0, r)
			}
		}
	}
}

// P13.3: every code as the peak, as the least and as Er, where it decides: it comes out as it is, if it can be.
func TestNextDecidedByEach(t *testing.T) {
	for code := range codes {
		x, want := uint16(code), uint16(code%(codes/2))
		if want < leastCode {
			want = 0
		}
		if got := rmcell.Next(mostCode, x, 0, rmcell.Rm{Er: mostCode}); got != want {
			t.Fatalf("the peak %x: %x", x, got)
		}
		if got := rmcell.Next(mostCode, mostCode, 0, rmcell.Rm{Er: x}); got != want {
			t.Fatalf("Er %x: %x", x, got)
		}
		if got := rmcell.Next(0, 0, x, rmcell.Rm{}); got != want {
			t.Fatalf("the least %x: %x", x, got)
		}
		if got := rmcell.Next(x, mostCode, 0, rmcell.Rm{Ni: true, Er: mostCode}); got != want {
			t.Fatalf("now %x: %x", x, got)
		}
	}
}

// P13.3: rates of all sorts, and rates near each other.
func TestNextOfMany(t *testing.T) {
	l, n := searcher(allCoded()), noise(5)
	for range 15000 {
		for i, r := range ways(n.code()) {
			if n.below(4) == i {
				l.held(t, n.code(), n.code(), n.code(), r)
			}
		}
	}
	for range 15000 {
		r := rmcell.Rm{Ci: n.yes(), Ni: n.below(4) == 0, Er: n.slow()}
		l.held(t, n.slow(), n.slow(), n.slow()*uint16(n.below(2)), r)
	}
	for range 15000 {
		base := leastCode + 600 + n.below(leastCode-1200)
		near := func() uint16 { return uint16(base - 100 + n.below(201)) }
		l.held(t, near(), near(), near(), rmcell.Rm{Ci: n.yes(), Ni: n.yes(), Er: near()})
	}
}

// P13.3: codes that can't be are like those with the same rate.
func TestNextOfCodesThatCannotBe(t *testing.T) {
	n := noise(6)
	like := func(code uint16) uint16 {
		if code%(codes/2) < leastCode {
			return 0
		}
		return code % (codes / 2)
	}
	for range 50000 {
		now, peak, least, er := uint16(n.below(codes)), uint16(n.below(codes)), uint16(n.below(codes)), uint16(n.below(codes))
		for _, r := range ways(er) {
			right := r
			right.Er = like(er)
			got, want := rmcell.Next(now, peak, least, r), rmcell.Next(like(now), like(peak), like(least), right)
			if got != want {
				t.Fatalf("Next(%x, %x, %x, %+v): %x, not %x", now, peak, least, r, got, want)
			}
		}
	}
}

// P13.3: of what a Rm tells Er, Ci and Ni alone play a part.
func TestNextOfTheRest(t *testing.T) {
	n := noise(7)
	for range 5000 {
		r := n.rm()
		now, peak, least := n.code(), n.code(), n.code()
		want := rmcell.Next(now, peak, least, rmcell.Rm{Ci: r.Ci, Ni: r.Ni, Er: r.Er})
		if got := rmcell.Next(now, peak, least, r); got != want {
			t.Fatalf("Next(%x, %x, %x, %+v): %x, not %x", now, peak, least, r, got, want)
		}
		r.Ccr, r.Mcr = 0x8001, 0x3fff
		if got := rmcell.Next(now, peak, least, r); got != want {
			t.Fatalf("Next(%x, %x, %x, %+v): %x, not %x", now, peak, least, r, got, want)
		}
	}
}

// P13.3: the answer can be, isn't below the least, nor above the greater one of it and of the lesser one of the peak and Er.
func TestNextWithin(t *testing.T) {
	n := noise(8)
	for range 50000 {
		r := n.rm()
		now, peak, least := n.code(), n.code(), n.code()
		got := rmcell.Next(now, peak, least, r)
		if !canBe(int(got)) || got < least || got > max(least, min(peak, r.Er)) {
			t.Fatalf("Next(%x, %x, %x, %+v): %x", now, peak, least, r, got)
		}
		if r.Ci && got > max(now, least) || !r.Ci && got < min(now, peak, r.Er) {
			t.Fatalf("Next(%x, %x, %x, %+v): %x", now, peak, least, r, got)
		}
	}
}

// P13.3: behind cell after cell a sender comes up to its peak, and goes down to its least, and stays there.
func TestNextInRows(t *testing.T) {
	peak, least := rate.Code(10000), rate.Code(100)
	now := least
	for range 17 {
		now = rmcell.Next(now, peak, least, rmcell.Rm{Er: mostCode})
	}
	if now != peak {
		t.Errorf("up to %x", now)
	}
	steps := 0
	for now != least && steps < 1000 {
		next := rmcell.Next(now, peak, least, rmcell.Rm{Ci: true, Er: mostCode})
		if next >= now {
			t.Fatalf("down from %x to %x", now, next)
		}
		now = next
		steps++
	}
	if now != least || rmcell.Next(now, peak, least, rmcell.Rm{Ci: true, Er: mostCode}) != least {
		t.Errorf("down to %x", now)
	}
}

// R3, R5: what is handed in stays as it is, answers are memory of their own, and are the same again, whatever was asked meanwhile.
func TestSameAgain(t *testing.T) {
	type told struct {
		p       payload
		e       api.Errno
		m, turn rmcell.Rm
		next    uint16
	}
	of := func(r rmcell.Rm) told {
		p, e := rmcell.Pack(r)
		return told{p, e, rmcell.Mark(r, 0x5000, true, false), rmcell.Turn(r), rmcell.Next(r.Ccr, mostCode, r.Mcr, r)}
	}
	l := some()
	was := slices.Clone(l)
	var first []told
	for _, r := range l {
		first = append(first, of(r))
	}
	p, _ := rmcell.Pack(l[3])
	r, _ := rmcell.Unpack(p)
	for i := range p {
		p[i] = 0xee
	}
	if again, _ := rmcell.Pack(l[3]); r != l[3] || again != laid(l[3]) {
		t.Errorf("changed with the payload: %+v, %x", r, again)
	}
	refused(t, p, api.ErrSum)
	for i := len(l) - 1; i >= 0; i-- {
		if of(l[i]) != first[i] {
			t.Errorf("%+v: %+v, then %+v", l[i], first[i], of(l[i]))
		}
	}
	if !slices.Equal(l, was) {
		t.Errorf("changed: %+v", l)
	}
}
