package oam_test

import (
	"math"
	"slices"
	"testing"

	"trunkline/api"
	"trunkline/cell"
	"trunkline/oam"
)

type (
	payload = [api.Payload]byte
	place   = [16]byte
)

var kinds = []int{oam.Ais, oam.Rdi, oam.Check, oam.Loop}

// noise makes numbers by a fixed rule, so that every run has the same ones.
type noise uint64

func (n *noise) below(most int) int {
	*n = *n*6364136223846793005 + 1442695040888963407
	return int((uint64(*n) >> 32) % uint64(most))
}

func (n *noise) yes() bool { return n.below(2) == 1 }

func (n *noise) place() place {
	var p place
	for i := range p {
		p[i] = byte(n.below(256))
	}
	return p
}

// oam is one that can be, of that kind.
func (n *noise) oam(kind int) oam.Oam {
	switch kind {
	case oam.Ais, oam.Rdi:
		return oam.Oam{Kind: kind, Defect: byte(n.below(256)), Place: n.place()}
	case oam.Loop:
		return oam.Oam{Kind: kind, Asks: n.yes(), Tag: uint32(n.below(1<<16)<<16 + n.below(1<<16)), Place: n.place(), Source: n.place()}
	}
	return oam.Oam{Kind: kind}
}

// all is a place with all bytes alike.
func all(b byte) place {
	var p place
	for i := range p {
		p[i] = b
	}
	return p
}

// field is one of what an Oam tells beside its kind: its name, how many bytes it has, and how one of them is set.
type field struct {
	name string
	size int
	set  func(o *oam.Oam, i int, b byte)
}

var (
	defect = field{"Defect", 1, func(o *oam.Oam, _ int, b byte) { o.Defect = b }}
	asks   = field{"Asks", 1, func(o *oam.Oam, _ int, b byte) { o.Asks = b != 0 }}
	tag    = field{"Tag", 4, func(o *oam.Oam, i int, b byte) {
		shift := 24 - 8*i
		o.Tag = o.Tag&^(0xff<<shift) | uint32(b)<<shift
	}}
	where  = field{"Place", 16, func(o *oam.Oam, i int, b byte) { o.Place[i] = b }}
	source = field{"Source", 16, func(o *oam.Oam, i int, b byte) { o.Source[i] = b }}
	fields = []field{defect, asks, tag, where, source}
)

// laidField is a field that a kind has, and where its first byte lies in a payload.
type laidField struct {
	field
	from int
}

// has are the fields of a kind, as the chapter says it.
func has(kind int) []laidField {
	switch kind {
	case oam.Ais, oam.Rdi:
		return []laidField{{defect, 1}, {where, 2}}
	case oam.Loop:
		return []laidField{{asks, 1}, {tag, 2}, {where, 6}, {source, 22}}
	}
	return nil
}

// hasNot are the others.
func hasNot(kind int) []field {
	var l []field
	for _, f := range fields {
		if !slices.ContainsFunc(has(kind), func(x laidField) bool { return x.name == f.name }) {
			l = append(l, f)
		}
	}
	return l
}

// filledFrom is the first place that a kind fills, of those up to 45.
func filledFrom(kind int) int {
	switch kind {
	case oam.Ais, oam.Rdi:
		return 18
	case oam.Loop:
		return 38
	}
	return 1
}

// ten is x^10 + x^9 + x^5 + x^4 + x + 1, the highest power first.
var ten = []byte{1, 1, 0, 0, 0, 1, 1, 0, 0, 1, 1}

// sealed lays a check by long division of the first 374 bits: none of the program's own calls.
func sealed(p payload) payload {
	var row [384]byte
	for i := range 374 {
		row[i] = p[i/8] >> (7 - i%8) & 1
	}
	for i := range 374 {
		if row[i] == 1 {
			for j, g := range ten {
				row[i+j] ^= g
			}
		}
	}
	p[46] &= 0xfc
	p[47] = 0
	for i := 374; i < 384; i++ {
		p[i/8] |= row[i] << (7 - i%8)
	}
	return p
}

// unsealed is a payload written from the chapter's words, place by place, with 0 for its check.
func unsealed(o oam.Oam) payload {
	p := payload{0: byte(16 + o.Kind)}
	switch o.Kind {
	case oam.Ais, oam.Rdi:
		p[1] = o.Defect
		for i, b := range o.Place {
			p[2+i] = b
		}
	case oam.Loop:
		if o.Asks {
			p[1] = 1
		}
		p[2], p[3], p[4], p[5] = byte(o.Tag/256/256/256), byte(o.Tag/256/256%256), byte(o.Tag/256%256), byte(o.Tag%256)
		for i, b := range o.Place {
			p[6+i] = b
		}
		for i, b := range o.Source {
			p[22+i] = b
		}
	}
	for i := filledFrom(o.Kind); i <= 45; i++ {
		p[i] = 0x6a
	}
	return p
}

func laid(o oam.Oam) payload { return sealed(unsealed(o)) }

// read is Unpack by the words of the promise.
func read(p payload) (oam.Oam, api.Errno) {
	if p != sealed(p) {
		return oam.Oam{}, api.ErrSum
	}
	if !slices.Contains([]byte{0x10, 0x11, 0x14, 0x18}, p[0]) {
		return oam.Oam{}, api.ErrKind
	}
	o := oam.Oam{Kind: int(p[0] % 16)}
	for _, b := range p[filledFrom(o.Kind):46] {
		if b != 0x6a {
			return oam.Oam{}, api.ErrForm
		}
	}
	if p[46] > 3 || o.Kind == oam.Loop && p[1] > 1 {
		return oam.Oam{}, api.ErrForm
	}
	for _, f := range has(o.Kind) {
		for i := range f.size {
			f.set(&o, i, p[f.from+i])
		}
	}
	return o, api.OK
}

// some are those of all kinds that can be: all 0, all at their greatest, and others.
func some() []oam.Oam {
	l := []oam.Oam{
		{}, {Kind: oam.Rdi}, {Kind: oam.Check}, {Kind: oam.Loop},
		{Kind: oam.Ais, Defect: 255, Place: all(0xff)},
		{Kind: oam.Rdi, Defect: 255, Place: all(0xff)},
		{Kind: oam.Loop, Asks: true, Tag: math.MaxUint32, Place: all(0xff), Source: all(0xff)},
		{Kind: oam.Ais, Defect: 0x6a, Place: all(0x6a)},
		{Kind: oam.Loop, Asks: true, Tag: 0x6a6a6a6a, Place: all(0x6a), Source: all(0x6a)},
	}
	n := noise(14)
	for range 8 {
		for _, kind := range kinds {
			l = append(l, n.oam(kind))
		}
	}
	return l
}

// packed holds Right and Pack of what can be against the chapter's words, and Unpack of that against what it was.
func packed(t *testing.T, o oam.Oam) {
	t.Helper()
	if !oam.Right(o) {
		t.Fatalf("Right(%+v): false", o)
	}
	p, e := oam.Pack(o)
	if p != laid(o) || e != api.OK {
		t.Fatalf("Pack(%+v): %x, %d, not %x", o, p, e, laid(o))
	}
	if again, e := oam.Unpack(p); again != o || e != api.OK {
		t.Fatalf("Unpack(%x): %+v, %d, not %+v", p, again, e, o)
	}
}

// wrong holds that it can't be.
func wrong(t *testing.T, o oam.Oam) {
	t.Helper()
	if oam.Right(o) {
		t.Fatalf("Right(%+v): true", o)
	}
	if p, e := oam.Pack(o); p != (payload{}) || e != api.ErrArg {
		t.Fatalf("Pack(%+v): %x, %d", o, p, e)
	}
}

// refused holds an error of Unpack, beside which there is nothing else.
func refused(t *testing.T, p payload, want api.Errno) {
	t.Helper()
	if o, e := oam.Unpack(p); o != (oam.Oam{}) || e != want {
		t.Fatalf("Unpack(%x): %+v, %d, not the error %d", p, o, e, want)
	}
}

// unpacked holds Unpack against the words of the promise, and Pack of what it tells against what it was.
func unpacked(t *testing.T, p payload) {
	t.Helper()
	want, e := read(p)
	if e != api.OK {
		refused(t, p, e)
		return
	}
	o, e := oam.Unpack(p)
	if o != want || e != api.OK {
		t.Fatalf("Unpack(%x): %+v, %d, not %+v", p, o, e, want)
	}
	if again, e := oam.Pack(o); again != p || e != api.OK {
		t.Fatalf("Pack(%+v): %x, %d, not %x", o, again, e, p)
	}
}

// P14.1: the chapter's example.
func TestExample(t *testing.T) {
	p, e := oam.Pack(oam.Oam{Kind: oam.Check})
	want := payload{0: 0x14}
	for i := range 45 {
		want[1+i] = 0x6a
	}
	if p != sealed(want) || p[46] > 3 || !cell.Sealed(p) || e != api.OK {
		t.Errorf("Pack: %x, %d, not %x", p, e, sealed(want))
	}
	packed(t, oam.Oam{Kind: oam.Check})
}

// P14.1: the numbers of the kinds.
func TestKinds(t *testing.T) {
	if !slices.Equal(kinds, []int{0, 1, 4, 8}) {
		t.Errorf("the kinds are %v", kinds)
	}
	for i, kind := range kinds {
		p, e := oam.Pack(oam.Oam{Kind: kind})
		if p[0] != []byte{0x10, 0x11, 0x14, 0x18}[i] || e != api.OK {
			t.Errorf("Pack of the kind %d: %x, %d", kind, p, e)
		}
		packed(t, oam.Oam{Kind: kind})
	}
}

// P14.1: payloads that are written out.
func TestWrittenOut(t *testing.T) {
	counted := place{1, 2, 3, 4, 5, 6, 7, 8, 9, 10, 11, 12, 13, 14, 15, 16}
	other := place{0xa0, 0xa1, 0xa2, 0xa3, 0xa4, 0xa5, 0xa6, 0xa7, 0xa8, 0xa9, 0xaa, 0xab, 0xac, 0xad, 0xae, 0xaf}
	for _, x := range []struct {
		o    oam.Oam
		head []byte
	}{
		{oam.Oam{}, beginning(0x10, 0, place{})},
		{oam.Oam{Kind: oam.Ais, Defect: 3, Place: counted}, beginning(0x10, 3, counted)},
		{oam.Oam{Kind: oam.Rdi, Defect: 0xfe, Place: other}, beginning(0x11, 0xfe, other)},
		{oam.Oam{Kind: oam.Check}, []byte{0x14}},
		{
			oam.Oam{Kind: oam.Loop, Asks: true, Tag: 0x01020304, Place: counted, Source: other},
			append(append([]byte{0x18, 1, 1, 2, 3, 4}, counted[:]...), other[:]...),
		},
		{
			oam.Oam{Kind: oam.Loop, Tag: 0xfffefdfc, Place: other, Source: counted},
			append(append([]byte{0x18, 0, 0xff, 0xfe, 0xfd, 0xfc}, other[:]...), counted[:]...),
		},
	} {
		p, e := oam.Pack(x.o)
		if !slices.Equal(p[:len(x.head)], x.head) || e != api.OK {
			t.Errorf("Pack(%+v): %x, %d, not %x", x.o, p, e, x.head)
		}
		for i := len(x.head); i < 46; i++ {
			if p[i] != 0x6a {
				t.Errorf("Pack(%+v): the byte %d is %x", x.o, i, p[i])
			}
		}
		if p[46] > 3 || !cell.Sealed(p) {
			t.Errorf("Pack(%+v): ends with %x, sealed: %t", x.o, p[46:], cell.Sealed(p))
		}
		packed(t, x.o)
	}
}

// beginning is what Ais and Rdi begin with.
func beginning(first, defect byte, p place) []byte {
	return append([]byte{first, defect}, p[:]...)
}

// P14.1, P14.3: all sorts of each kind.
func TestPack(t *testing.T) {
	for _, o := range some() {
		packed(t, o)
	}
	n := noise(31)
	for range 2000 {
		for _, kind := range kinds {
			packed(t, n.oam(kind))
		}
	}
}

// P14.1: kinds that are none: between and beside the four, below 0, and those whose lowest bits or byte alone are a kind's.
func TestKindsThatAreNone(t *testing.T) {
	l := []int{math.MinInt, math.MinInt + 1, math.MaxInt, math.MaxInt - 1, math.MinInt32, math.MaxInt32}
	for kind := -300; kind <= 600; kind++ {
		l = append(l, kind)
	}
	for _, kind := range kinds {
		for bit := 4; bit < 64; bit++ {
			l = append(l, kind|1<<bit)
		}
		l = append(l, -kind, ^kind, kind-256, kind+0x1010, kind+math.MinInt)
	}
	n := noise(3)
	for _, kind := range l {
		if slices.Contains(kinds, kind) {
			packed(t, oam.Oam{Kind: kind})
			continue
		}
		wrong(t, oam.Oam{Kind: kind})
		for _, like := range kinds {
			o := n.oam(like)
			o.Kind = kind
			wrong(t, o)
		}
	}
}

// P14.1: each field that a kind doesn't have, with each of its bytes, beside nothing and beside all that it has.
func TestFieldsThatAKindHasNot(t *testing.T) {
	for _, start := range some() {
		for _, f := range hasNot(start.Kind) {
			for i := range f.size {
				for b := range 256 {
					o := start
					f.set(&o, i, byte(b))
					if b == 0 {
						packed(t, o)
						continue
					}
					wrong(t, o)
				}
			}
		}
	}
}

// P14.1: fields of which a kind has all, some or none, set together.
func TestFieldsTogether(t *testing.T) {
	for _, kind := range kinds {
		for row := range 32 {
			o, can := oam.Oam{Kind: kind}, true
			for i, f := range fields {
				if row>>i&1 == 0 {
					continue
				}
				f.set(&o, f.size-1, 7)
				can = can && !slices.ContainsFunc(hasNot(kind), func(x field) bool { return x.name == f.name })
			}
			if can {
				packed(t, o)
			} else {
				wrong(t, o)
			}
		}
	}
}

// P14.1: each field that a kind has, with each of its bytes as all that it can be, at its own place; and at 0.
func TestFieldsThatAKindHas(t *testing.T) {
	for _, start := range some() {
		for _, f := range has(start.Kind) {
			for i := range f.size {
				for b := range 256 {
					o := start
					f.set(&o, i, byte(b))
					want := byte(b)
					if f.name == "Asks" {
						want = min(want, 1)
					}
					if p, e := oam.Pack(o); p[f.from+i] != want || e != api.OK {
						t.Fatalf("Pack(%+v): %x, %d: the byte %d of %s isn't %x", o, p, e, i, f.name, want)
					} else if again, e := oam.Unpack(p); again != o || e != api.OK {
						t.Fatalf("Unpack(%x): %+v, %d, not %+v", p, again, e, o)
					}
					// The check is divided out for some of them alone, which is enough with TestPack.
					if b%51 == 0 {
						packed(t, o)
					}
				}
			}
		}
	}
}

// P14.1: Defect, Tag, Place and Source with their least and greatest bytes, in all the ways in which these may come together.
func TestLeastAndGreatest(t *testing.T) {
	for row := range 16 {
		var d byte
		var g uint32
		var p, s place
		if row&1 != 0 {
			d = 255
		}
		if row&2 != 0 {
			g = math.MaxUint32
		}
		if row&4 != 0 {
			p = all(0xff)
		}
		if row&8 != 0 {
			s = all(0xff)
		}
		for _, o := range []oam.Oam{{Kind: oam.Ais, Defect: d, Place: p}, {Kind: oam.Rdi, Defect: d, Place: p}} {
			packed(t, o)
		}
		for _, asks := range []bool{false, true} {
			packed(t, oam.Oam{Kind: oam.Loop, Asks: asks, Tag: g, Place: p, Source: s})
		}
	}
}

// P14.1: each error of Unpack by itself, in each kind.
func TestEachError(t *testing.T) {
	for _, o := range some() {
		good := unsealed(o)
		unsound, strange, formless, stained := sealed(good), good, good, good
		unsound[47] ^= 1
		strange[0] ^= 0x20
		formless[45] = 0x6b
		stained[46] = 0x04
		refused(t, unsound, api.ErrSum)
		refused(t, sealed(strange), api.ErrKind)
		refused(t, sealed(formless), api.ErrForm)
		refused(t, sealed(stained), api.ErrForm)
		unpacked(t, sealed(good))
	}
}

// P14.1: of several errors the one that the promise names first, in all the ways in which they may come together.
func TestErrorsTogether(t *testing.T) {
	for _, o := range some() {
		for _, first := range []byte{0, 1, 4, 8, 0x0f, 0x12, 0x13, 0x15, 0x19, 0x1c, 0x20, 0x28, 0x90, 0xff} {
			for row := range 16 {
				p, want := unsealed(o), api.OK
				if row&1 != 0 {
					p[filledFrom(o.Kind)] ^= 0x80
					want = api.ErrForm
				}
				if row&2 != 0 {
					p[46], want = 0x80, api.ErrForm
				}
				if row&4 != 0 {
					p[0], want = first, api.ErrKind
				}
				p = sealed(p)
				if row&8 != 0 {
					p[47] ^= 0x10
					want = api.ErrSum
				}
				if want == api.OK {
					unpacked(t, p)
					continue
				}
				refused(t, p, want)
			}
		}
	}
}

// P14.1: a Loop's first byte that is wrong, beside the other errors.
func TestLoopsFirstByteTogether(t *testing.T) {
	for _, b := range []byte{2, 0x6a, 0xff} {
		p := unsealed(oam.Oam{Kind: oam.Loop, Tag: 7})
		p[1] = b
		refused(t, sealed(p), api.ErrForm)
		p[40] = 0
		refused(t, sealed(p), api.ErrForm)
		unsound := sealed(p)
		unsound[3] ^= 2
		refused(t, unsound, api.ErrSum)
		p[0] = 0x19
		refused(t, sealed(p), api.ErrKind)
	}
}

// P14.1: the first byte as each one, sealed anew: another kind reads what is there as its own, if what it fixes is so.
func TestEveryFirstByte(t *testing.T) {
	for _, o := range some() {
		for b := range 256 {
			p := unsealed(o)
			p[0] = byte(b)
			p = sealed(p)
			switch b {
			case 0x10, 0x11, 0x14, 0x18:
				unpacked(t, p)
			default:
				refused(t, p, api.ErrKind)
			}
		}
	}
}

// P14.1: one kind's payload as another kind's, written out.
func TestAsAnotherKind(t *testing.T) {
	o := oam.Oam{Kind: oam.Ais, Defect: 1, Place: place{5, 6}}
	for _, x := range []struct {
		o     oam.Oam
		first byte
		want  oam.Oam
		e     api.Errno
	}{
		{o, 0x11, oam.Oam{Kind: oam.Rdi, Defect: 1, Place: place{5, 6}}, api.OK},
		{o, 0x14, oam.Oam{}, api.ErrForm},
		{oam.Oam{Kind: oam.Ais, Defect: 0x6a, Place: all(0x6a)}, 0x14, oam.Oam{Kind: oam.Check}, api.OK},
		{oam.Oam{Kind: oam.Check}, 0x11, oam.Oam{Kind: oam.Rdi, Defect: 0x6a, Place: all(0x6a)}, api.OK},
		{oam.Oam{Kind: oam.Check}, 0x18, oam.Oam{}, api.ErrForm},
		{
			oam.Oam{Kind: oam.Ais, Defect: 1, Place: all(3)}, 0x18,
			oam.Oam{
				Kind: oam.Loop, Asks: true, Tag: 0x03030303,
				Place:  place{3, 3, 3, 3, 3, 3, 3, 3, 3, 3, 3, 3, 0x6a, 0x6a, 0x6a, 0x6a},
				Source: all(0x6a),
			},
			api.OK,
		},
		{oam.Oam{Kind: oam.Ais, Defect: 2, Place: all(3)}, 0x18, oam.Oam{}, api.ErrForm},
		{oam.Oam{Kind: oam.Loop, Source: all(1)}, 0x10, oam.Oam{}, api.ErrForm},
	} {
		p := unsealed(x.o)
		p[0] = x.first
		if got, e := oam.Unpack(sealed(p)); got != x.want || e != x.e {
			t.Errorf("Unpack(%x): %+v, %d, not %+v, %d", sealed(p), got, e, x.want, x.e)
		}
	}
}

// P14.1: a Loop's first byte: 0, 1, and all above, which can't be.
func TestLoopsFirstByte(t *testing.T) {
	n := noise(4)
	for range 5 {
		o := n.oam(oam.Loop)
		for b := range 256 {
			p := unsealed(o)
			p[1] = byte(b)
			p = sealed(p)
			if b > 1 {
				refused(t, p, api.ErrForm)
				continue
			}
			want := o
			want.Asks = b == 1
			if got, e := oam.Unpack(p); got != want || e != api.OK {
				t.Fatalf("Unpack(%x): %+v, %d", p, got, e)
			}
		}
	}
}

// P14.1: each fixed byte of each kind as each other one, sealed anew.
func TestFixedBytes(t *testing.T) {
	for _, o := range some()[:9] {
		for i := filledFrom(o.Kind); i < 46; i++ {
			for b := range 256 {
				p := unsealed(o)
				p[i] = byte(b)
				if b != 0x6a {
					refused(t, sealed(p), api.ErrForm)
				}
			}
		}
	}
}

// P14.1: each bit behind the first byte turned over, sealed anew: what is fixed is told, and what isn't is another one.
func TestEachBitSealedAnew(t *testing.T) {
	for _, o := range some() {
		for bit := 8; bit < 374; bit++ {
			p := unsealed(o)
			p[bit/8] ^= 0x80 >> (bit % 8)
			p = sealed(p)
			fixed := bit/8 >= filledFrom(o.Kind) || o.Kind == oam.Loop && bit < 15
			if fixed {
				refused(t, p, api.ErrForm)
				continue
			}
			if got, e := oam.Unpack(p); e != api.OK || got == o || got.Kind != o.Kind {
				t.Fatalf("Unpack(%x): %+v, %d", p, got, e)
			}
			unpacked(t, p)
		}
	}
}

// P14.1: the six bits ahead of the check in each other way, sealed anew.
func TestBitsAheadOfTheCheck(t *testing.T) {
	for _, o := range some() {
		for high := 1; high < 64; high++ {
			p := unsealed(o)
			p[46] = byte(high << 2)
			refused(t, sealed(p), api.ErrForm)
		}
	}
}

// P14.1: payloads that aren't sealed: all that the last ten bits can be, but for one.
func TestUnsealed(t *testing.T) {
	for _, o := range some()[:9] {
		good := laid(o)
		for last := range 1024 {
			p := unsealed(o)
			p[46], p[47] = byte(last>>8), byte(last)
			if p == good {
				unpacked(t, p)
			} else {
				refused(t, p, api.ErrSum)
			}
		}
	}
}

// P14.1: all 0s, which are sealed, and others that say nothing.
func TestOddPayloads(t *testing.T) {
	var ones, filled payload
	for i := range ones {
		ones[i], filled[i] = 0xff, 0x6a
	}
	refused(t, payload{}, api.ErrKind)
	refused(t, payload{47: 1}, api.ErrSum)
	refused(t, payload{0: 0x10}, api.ErrSum)
	refused(t, sealed(payload{0: 0x10}), api.ErrForm)
	refused(t, sealed(payload{0: 0x14}), api.ErrForm)
	refused(t, sealed(payload{0: 0x18}), api.ErrForm)
	refused(t, ones, api.ErrSum)
	refused(t, sealed(ones), api.ErrKind)
	refused(t, filled, api.ErrSum)
	refused(t, sealed(filled), api.ErrKind)
}

// P14.1: each single bit of a right payload turned over.
func TestEachBit(t *testing.T) {
	for _, o := range some() {
		good := laid(o)
		for bit := range 384 {
			p := good
			p[bit/8] ^= 0x80 >> (bit % 8)
			refused(t, p, api.ErrSum)
		}
	}
}

// P14.1, P14.3: payloads of all sorts, near right ones and far from them, most of them sealed.
func TestManyPayloads(t *testing.T) {
	n := noise(5)
	for range 20000 {
		p := unsealed(n.oam(kinds[n.below(4)]))
		for range n.below(3) {
			p[n.below(47)] = byte(n.below(256))
		}
		if n.below(3) == 0 {
			p[0] = byte(16 + kinds[n.below(4)])
		}
		if n.below(8) != 0 {
			p = sealed(p)
		}
		unpacked(t, p)
	}
	for range 2000 {
		var p payload
		for i := range p {
			p[i] = byte(n.below(256))
		}
		unpacked(t, p)
		unpacked(t, sealed(p))
	}
}

// replied holds what is sent back, which isn't replied to itself.
func replied(t *testing.T, o oam.Oam, here place, want oam.Oam) {
	t.Helper()
	got, ok := oam.Reply(o, here)
	if got != want || !ok {
		t.Fatalf("Reply(%+v, %x): %+v, %t, not %+v", o, here, got, ok, want)
	}
	for _, there := range []place{here, want.Place, o.Source, {}, all(0xff)} {
		silent(t, got, there)
	}
}

// silent holds that nothing is sent back.
func silent(t *testing.T, o oam.Oam, here place) {
	t.Helper()
	if got, ok := oam.Reply(o, here); got != (oam.Oam{}) || ok {
		t.Fatalf("Reply(%+v, %x): %+v, %t", o, here, got, ok)
	}
}

// heres are places of all sorts.
func heres() []place {
	n := noise(6)
	return []place{{}, {5}, {15: 8}, all(1), all(0xfe), all(0xff), n.place(), n.place()}
}

// P14.2: written out.
func TestReplyWrittenOut(t *testing.T) {
	here := place{5}
	o := oam.Oam{Kind: oam.Loop, Asks: true, Tag: 0x01020304, Place: here, Source: place{15: 8}}
	want := oam.Oam{Kind: oam.Loop, Tag: 0x01020304, Place: place{5}, Source: place{15: 8}}
	replied(t, o, here, want)
	o.Place = all(0xff)
	replied(t, o, here, want)
	o.Place = place{6}
	silent(t, o, here)
}

// P14.2: of a Loop that asks, whose Place is here, or everywhere; and of one that doesn't ask.
func TestReply(t *testing.T) {
	n := noise(7)
	for _, here := range heres() {
		for range 200 {
			o := n.oam(oam.Loop)
			for _, o.Place = range []place{here, all(0xff)} {
				o.Asks = false
				silent(t, o, here)
				want := o
				want.Place = here
				o.Asks = true
				replied(t, o, here, want)
				packed(t, want)
			}
			o.Tag, o.Source = 0, place{}
			replied(t, o, here, oam.Oam{Kind: oam.Loop, Place: here})
		}
	}
}

// P14.2: of a Place that differs from here, or from everywhere, in one byte.
func TestReplyOfAnotherPlace(t *testing.T) {
	for _, here := range heres() {
		for _, near := range []place{here, all(0xff)} {
			for i := range near {
				for b := range 256 {
					o := oam.Oam{Kind: oam.Loop, Asks: true, Tag: 9, Place: near, Source: place{4}}
					o.Place[i] = byte(b)
					if o.Place == here || o.Place == all(0xff) {
						replied(t, o, here, oam.Oam{Kind: oam.Loop, Tag: 9, Place: here, Source: place{4}})
					} else {
						silent(t, o, here)
					}
				}
			}
		}
	}
}

// P14.2: with here everywhere itself.
func TestReplyWhereHereIsEverywhere(t *testing.T) {
	ones := all(0xff)
	o := oam.Oam{Kind: oam.Loop, Asks: true, Tag: 3, Place: ones, Source: place{1}}
	replied(t, o, ones, oam.Oam{Kind: oam.Loop, Tag: 3, Place: ones, Source: place{1}})
	for _, o.Place = range []place{{}, {5}, all(0xfe)} {
		silent(t, o, ones)
	}
}

// P14.2: a Loop's Source plays no part.
func TestReplyOfSource(t *testing.T) {
	here := place{5}
	o := oam.Oam{Kind: oam.Loop, Asks: true, Place: place{6}}
	for _, o.Source = range []place{here, all(0xff)} {
		silent(t, o, here)
	}
	o.Place = here
	for _, o.Source = range []place{here, all(0xff), {}, {6}} {
		replied(t, o, here, oam.Oam{Kind: oam.Loop, Place: here, Source: o.Source})
	}
}

// P14.2: of the other kinds, and of what is of no kind, whatever else is set.
func TestReplyOfOtherKinds(t *testing.T) {
	l := []int{-8, -1, 0, 1, 2, 3, 4, 5, 6, 7, 9, 10, 12, 15, 16, 24, 256, 264, 8 + 1<<32, math.MinInt, math.MaxInt, 8 + math.MinInt}
	for _, here := range heres() {
		for _, kind := range l {
			for _, at := range []place{here, all(0xff), {7}} {
				for _, asks := range []bool{false, true} {
					silent(t, oam.Oam{Kind: kind, Asks: asks, Place: at}, here)
					silent(t, oam.Oam{Kind: kind, Defect: 1, Asks: asks, Tag: 2, Place: at, Source: place{3}}, here)
				}
			}
		}
		for _, o := range some() {
			if o.Kind != oam.Loop {
				silent(t, o, o.Place)
				o.Place = here
				silent(t, o, here)
			}
		}
	}
}

// P14.2: of a Loop that can't be, for it has a Defect: by the promise's words its Asks and Place alone decide, and all else is the same.
func TestReplyOfALoopThatCannotBe(t *testing.T) {
	here := place{5}
	for _, d := range []byte{1, 255} {
		o := oam.Oam{Kind: oam.Loop, Defect: d, Asks: true, Tag: 6, Place: here, Source: place{2}}
		wrong(t, o)
		want := oam.Oam{Kind: oam.Loop, Defect: d, Tag: 6, Place: here, Source: place{2}}
		replied(t, o, here, want)
		o.Place = all(0xff)
		replied(t, o, here, want)
		o.Place = place{6}
		silent(t, o, here)
		o.Place, o.Asks = here, false
		silent(t, o, here)
	}
}

// P14.3: what is replied can be, is packed and unpacked, and isn't replied to, wherever it comes.
func TestRepliedIsPacked(t *testing.T) {
	n := noise(8)
	for range 1000 {
		here, there := n.place(), n.place()
		o := n.oam(oam.Loop)
		o.Asks = true
		if n.yes() {
			o.Place = here
		} else {
			o.Place = all(0xff)
		}
		p, _ := oam.Pack(o)
		got, e := oam.Unpack(p)
		if e != api.OK {
			t.Fatalf("Unpack(%x): %d", p, e)
		}
		back, ok := oam.Reply(got, here)
		if !ok {
			t.Fatalf("Reply(%+v, %x): false", got, here)
		}
		packed(t, back)
		q, _ := oam.Pack(back)
		come, _ := oam.Unpack(q)
		silent(t, come, here)
		silent(t, come, there)
		silent(t, come, come.Source)
		silent(t, come, all(0xff))
	}
}

// R3, R5: what is handed in stays as it is, answers are memory of their own, and are the same again, whatever was asked meanwhile.
func TestSameAgain(t *testing.T) {
	type told struct {
		can  bool
		p    payload
		e    api.Errno
		back oam.Oam
		ok   bool
	}
	of := func(o oam.Oam) told {
		p, e := oam.Pack(o)
		back, ok := oam.Reply(o, o.Place)
		return told{oam.Right(o), p, e, back, ok}
	}
	l := append(some(), oam.Oam{Kind: 2}, oam.Oam{Kind: oam.Check, Tag: 1})
	was := slices.Clone(l)
	var first []told
	for _, o := range l {
		first = append(first, of(o))
	}
	p, _ := oam.Pack(l[6])
	o, _ := oam.Unpack(p)
	for i := range p {
		p[i] = 0xee
	}
	if again, _ := oam.Pack(l[6]); o != l[6] || again != laid(l[6]) {
		t.Errorf("changed with the payload: %+v, %x", o, again)
	}
	back, _ := oam.Reply(l[6], all(0xff))
	for i := range back.Place {
		back.Place[i], back.Source[i] = 0xee, 0xee
	}
	refused(t, p, api.ErrSum)
	for i := len(l) - 1; i >= 0; i-- {
		if of(l[i]) != first[i] {
			t.Errorf("%+v: %+v, then %+v", l[i], first[i], of(l[i]))
		}
	}
	if !slices.Equal(l, was) {
		t.Errorf("changed: %+v", l)
	}
}
