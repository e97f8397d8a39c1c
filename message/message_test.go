package message_test

import (
	"bytes"
	"math"
	"slices"
	"testing"

	"trunkline/api"
	"trunkline/element"
	"trunkline/message"
)

// five are the kinds that there are, by the document's numbers.
var five = []int{0x02, 0x05, 0x07, 0x4d, 0x5a}

// oddKinds are numbers that are no kinds: those beside the five, and ones that are one of them in their lowest byte, or four, alone.
func oddKinds() []int {
	l := []int{0, -1, math.MinInt, math.MaxInt, -0x5a, 0xff, 0x80}
	for _, kind := range five {
		l = append(l, kind-256, kind+256, kind+128, kind<<8, kind|1<<16, kind+1<<32, kind+1<<62, kind+math.MinInt, -kind)
		for _, x := range []int{kind - 1, kind + 1} {
			if !slices.Contains(five, x) {
				l = append(l, x)
			}
		}
	}
	return l
}

// Refs that can be, at edges and with each byte of its own; and such that can't, some of them but for their higher bits.
var (
	goodRefs = []int{1, 2, 5, 127, 128, 255, 256, 257, 65535, 65536, 65537, 0x010203, 0x7f0000, 0x00ff00, 0x0000ff, 0x400000, 0x7ffffe, 0x7fffff}
	oddRefs  = []int{0, -1, -5, 0x800000, 0x800001, 0xffffff, 0x1000000, 0x1000001, 0x1000005, 1 << 32, 1<<32 + 1, 1<<62 + 7, math.MaxInt, math.MinInt, math.MinInt + 1, -0x7fffff}
)

// noise makes numbers by a fixed rule, so that every run has the same ones.
type noise uint64

func (n *noise) below(most int) int {
	*n = *n*6364136223846793005 + 1442695040888963407
	return int((uint64(*n) >> 32) % uint64(most))
}

func (n *noise) bytes(many int) []byte {
	b := make([]byte, many)
	for i := range b {
		b[i] = byte(n.below(256))
	}
	return b
}

// list is one of so many elements that can be packed; the Ids are often those that are looked for.
func (n *noise) list(many, most int) []api.Ie {
	var l []api.Ie
	for range many {
		id := []int{0x08, 0x59, 0x5a, n.below(256)}[n.below(4)]
		l = append(l, api.Ie{Id: byte(id), Body: n.bytes(n.below(most + 1))})
	}
	return l
}

// message is one that can be, and that isn't too long.
func (n *noise) message() api.Message {
	ref := []int{1 + n.below(0x7fffff), goodRefs[n.below(len(goodRefs))]}[n.below(2)]
	l := n.list(n.below(17), []int{0, 2, 9, 57}[n.below(4)])
	return api.Message{Ref: ref, Back: n.below(2) == 1, Kind: five[n.below(5)], Ies: l}
}

// laidList is the bytes of elements by layer 15's words, whether they can be packed or not.
func laidList(l []api.Ie) []byte {
	var b []byte
	for _, x := range l {
		b = append(b, x.Id, 128, byte(len(x.Body)/256), byte(len(x.Body)%256))
		b = append(b, x.Body...)
	}
	return b
}

// canPack is whether elements can be packed, by layer 15's words.
func canPack(l []api.Ie) bool {
	return len(l) <= 16 && !slices.ContainsFunc(l, func(x api.Ie) bool { return len(x.Body) >= 201 })
}

// readList is what Unpack of layer 15 must answer.
func readList(b []byte) ([]api.Ie, api.Errno) {
	var l []api.Ie
	for at := 0; at != len(b); {
		left := len(b) - at
		if len(l) == 16 {
			return nil, api.ErrLong
		}
		if left <= 3 {
			return nil, api.ErrShort
		}
		if b[at+1] != 128 {
			return nil, api.ErrForm
		}
		n := 256*int(b[at+2]) + int(b[at+3])
		if n >= 201 {
			return nil, api.ErrLong
		}
		if left < 4+n {
			return nil, api.ErrShort
		}
		l = append(l, api.Ie{Id: b[at], Body: b[at+4 : at+4+n]})
		at += 4 + n
	}
	return l, api.OK
}

// laid is a message's bytes by the chapter's words, of whatever is behind the ninth.
func laid(m api.Message, behind []byte) []byte {
	high := m.Ref / 65536
	if m.Back {
		high += 128
	}
	n := len(behind)
	b := []byte{9, 3, byte(high), byte(m.Ref / 256 % 256), byte(m.Ref % 256), byte(m.Kind), 128, byte(n / 256), byte(n % 256)}
	return append(b, behind...)
}

// whole is the bytes of a message with its own elements.
func whole(m api.Message) []byte { return laid(m, laidList(m.Ies)) }

// canBe is the chapter's word.
func canBe(m api.Message) bool {
	return m.Ref > 0 && m.Ref < 8388608 && slices.Contains(five, m.Kind) && canPack(m.Ies)
}

// read is what Unpack must answer by the promise's words: one after the other.
func read(b []byte) (api.Message, api.Errno) {
	none := api.Message{}
	if len(b) > 1000 {
		return none, api.ErrLong
	}
	if len(b) < 9 {
		return none, api.ErrShort
	}
	ref := 65536*int(b[2]%128) + 256*int(b[3]) + int(b[4])
	if b[0] != 9 || b[1] != 3 || b[6] != 128 || ref == 0 {
		return none, api.ErrForm
	}
	if !slices.Contains(five, int(b[5])) {
		return none, api.ErrKind
	}
	told := 256*int(b[7]) + int(b[8])
	if len(b)-9 < told {
		return none, api.ErrShort
	}
	if len(b)-9 > told {
		return none, api.ErrTail
	}
	l, e := readList(b[9:])
	if e != api.OK {
		return none, e
	}
	return api.Message{Ref: ref, Back: b[2] >= 128, Kind: int(b[5]), Ies: l}, api.OK
}

func sameIe(a, b api.Ie) bool { return a.Id == b.Id && bytes.Equal(a.Body, b.Body) }

func same(a, b api.Message) bool {
	return a.Ref == b.Ref && a.Back == b.Back && a.Kind == b.Kind && slices.EqualFunc(a.Ies, b.Ies, sameIe)
}

// own is a message in memory of its own.
func own(m api.Message) api.Message {
	m.Ies = slices.Clone(m.Ies)
	for i := range m.Ies {
		m.Ies[i].Body = bytes.Clone(m.Ies[i].Body)
	}
	return m
}

// packs holds that Right and Pack answer what the chapter says of a message, that what was packed is unpacked, and that the message is left as it is.
func packs(t *testing.T, m api.Message) {
	t.Helper()
	was, can := own(m), canBe(m)
	if got := message.Right(m); got != can {
		t.Fatalf("Right(%v): %v", m, got)
	}
	var want []byte
	wrong := api.OK
	switch {
	case !can:
		wrong = api.ErrArg
	case len(whole(m)) > 1000:
		wrong = api.ErrLong
	default:
		want = whole(m)
	}
	b, e := message.Pack(m)
	if !bytes.Equal(b, want) || e != wrong {
		t.Fatalf("Pack(%v): %v, %d, not %v, %d", m, b, e, want, wrong)
	}
	if !same(m, was) {
		t.Fatalf("changed: %v was %v", m, was)
	}
	if e != api.OK {
		return
	}
	if got, e := message.Unpack(b); !same(got, was) || e != api.OK {
		t.Fatalf("Unpack(%v): %v, %d, not %v", b, got, e, was)
	}
}

// unpacks holds that bytes are unpacked as the promise says, packed to what they were, and left as they are.
func unpacks(t *testing.T, b []byte) {
	t.Helper()
	was := bytes.Clone(b)
	want, wrong := read(was)
	m, e := message.Unpack(b)
	if !same(m, want) || e != wrong {
		t.Fatalf("Unpack(%v): %v, %d, not %v, %d", b, m, e, want, wrong)
	}
	if !bytes.Equal(b, was) {
		t.Fatalf("changed: %v was %v", b, was)
	}
	if e != api.OK {
		return
	}
	if again, e := message.Pack(m); !bytes.Equal(again, was) || e != api.OK {
		t.Fatalf("Pack(%v): %v, %d, not %v", m, again, e, was)
	}
}

// refused holds that bytes are refused with that error.
func refused(t *testing.T, b []byte, want api.Errno) {
	t.Helper()
	if m, e := message.Unpack(b); !same(m, api.Message{}) || e != want {
		t.Fatalf("Unpack(%v): %v, %d, not %d", b, m, e, want)
	}
	unpacks(t, b)
}

// cause is an element by layer 15's words.
func cause(code int) api.Ie { return api.Ie{Id: 0x08, Body: []byte{0, byte(code)}} }

// many are so many elements, each with a Body of so many bytes.
func many(number, size int) []api.Ie {
	var l []api.Ie
	for i := range number {
		l = append(l, api.Ie{Id: byte(i), Body: bytes.Repeat([]byte{byte(7 * i)}, size)})
	}
	return l
}

// filling is a list of elements whose bytes are so many, which is none of 1 to 3.
func filling(size int) []api.Ie {
	var l []api.Ie
	for size > 0 {
		part := min(size, 204)
		if left := size - part; left > 0 && left < 4 {
			part -= 4
		}
		l = append(l, api.Ie{Id: byte(size), Body: bytes.Repeat([]byte{byte(len(l))}, part-4)})
		size -= part
	}
	return l
}

// P16.1: the chapter's example, from an answer to the bytes and back.
func TestExample(t *testing.T) {
	want := []byte{0x09, 0x03, 0x00, 0x00, 0x05, 0x5a, 0x80, 0x00, 0x06, 0x08, 0x80, 0x00, 0x02, 0x00, 0x23}
	m := message.Answer(api.Message{Ref: 5, Back: true, Kind: api.Release}, api.Complete, 35)
	b, e := message.Pack(m)
	if !bytes.Equal(b, want) || e != api.OK {
		t.Errorf("Pack: %v, %d", b, e)
	}
	got, e := message.Unpack(want)
	if !same(got, api.Message{Ref: 5, Kind: 0x5a, Ies: []api.Ie{cause(35)}}) || e != api.OK {
		t.Errorf("Unpack: %v, %d", got, e)
	}
	if code := message.Cause(got); code != 35 {
		t.Errorf("Cause: %d", code)
	}
}

// P16.1: bytes written out, one message of each kind.
func TestWrittenOut(t *testing.T) {
	for _, x := range []struct {
		m    api.Message
		want []byte
	}{
		{api.Message{Ref: 1, Kind: api.Proceeding}, []byte{9, 3, 0, 0, 1, 0x02, 0x80, 0, 0}},
		{api.Message{Ref: 1, Back: true, Kind: api.Setup, Ies: []api.Ie{{}}}, []byte{9, 3, 0x80, 0, 1, 0x05, 0x80, 0, 4, 0, 0x80, 0, 0}},
		{api.Message{Ref: 0x010203, Kind: api.Connect, Ies: []api.Ie{}}, []byte{9, 3, 1, 2, 3, 0x07, 0x80, 0, 0}},
		{api.Message{Ref: api.MaxRef, Kind: api.Release}, []byte{9, 3, 0x7f, 0xff, 0xff, 0x4d, 0x80, 0, 0}},
		{api.Message{Ref: api.MaxRef, Back: true, Kind: api.Complete}, []byte{9, 3, 0xff, 0xff, 0xff, 0x5a, 0x80, 0, 0}},
		{
			api.Message{Ref: 0x400000, Back: true, Kind: api.Connect, Ies: []api.Ie{{Id: 9, Body: []byte{1, 2}}, {Id: 8}}},
			[]byte{9, 3, 0xc0, 0, 0, 0x07, 0x80, 0, 10, 9, 0x80, 0, 2, 1, 2, 8, 0x80, 0, 0},
		},
	} {
		if !message.Right(x.m) {
			t.Errorf("Right(%v)", x.m)
		}
		if b, e := message.Pack(x.m); !bytes.Equal(b, x.want) || e != api.OK {
			t.Errorf("Pack(%v): %v, %d", x.m, b, e)
		}
		if m, e := message.Unpack(x.want); !same(m, x.m) || e != api.OK {
			t.Errorf("Unpack(%v): %v, %d", x.want, m, e)
		}
		packs(t, x.m)
		unpacks(t, x.want)
	}
}

// The numbers of the kinds that the bytes have are the document's.
func TestKinds(t *testing.T) {
	if !slices.Equal(five, []int{api.Proceeding, api.Setup, api.Connect, api.Release, api.Complete}) {
		t.Errorf("%v", five)
	}
}

// P16.1: each number near the kinds, and ones far off, as a kind.
func TestEachKind(t *testing.T) {
	l := oddKinds()
	for kind := -600; kind <= 70000; kind++ {
		l = append(l, kind)
	}
	for _, kind := range l {
		for _, back := range []bool{false, true} {
			packs(t, api.Message{Ref: 5, Back: back, Kind: kind, Ies: []api.Ie{cause(1)}})
		}
	}
	for _, kind := range oddKinds() {
		if message.Right(api.Message{Ref: 5, Kind: kind}) {
			t.Errorf("Right of the kind %v", kind)
		}
	}
}

// P16.1: Refs at their edges, with each byte on its own, and one in 61 of all.
func TestEachRef(t *testing.T) {
	for _, kind := range five {
		for _, back := range []bool{false, true} {
			for _, ref := range slices.Concat(goodRefs, oddRefs) {
				packs(t, api.Message{Ref: ref, Back: back, Kind: kind})
			}
		}
	}
	for _, ref := range goodRefs {
		if !message.Right(api.Message{Ref: ref, Kind: api.Setup}) {
			t.Errorf("Right of the Ref %v: false", ref)
		}
	}
	for _, ref := range oddRefs {
		if message.Right(api.Message{Ref: ref, Kind: api.Setup}) {
			t.Errorf("Right of the Ref %v: true", ref)
		}
	}
	for b := range 256 {
		for _, place := range []int{1, 256, 65536} {
			packs(t, api.Message{Ref: b * place, Kind: api.Setup})
			packs(t, api.Message{Ref: b*place + 0x010101, Back: true, Kind: api.Setup})
		}
	}
	for ref := -61; ref <= 0x800000+200; ref += 61 {
		packs(t, api.Message{Ref: ref, Back: ref%2 == 0, Kind: api.Release})
	}
}

// P16.1: elements that can't be packed: too many, and a Body that is too long, at each place.
func TestElementsThatCannotBePacked(t *testing.T) {
	base := api.Message{Ref: 5, Kind: api.Setup}
	for number := range 40 {
		for _, size := range []int{0, 1, 57, 58, 200, 201} {
			base.Ies = many(number, size)
			packs(t, base)
		}
	}
	for _, number := range []int{256, 257, 65536, 65537} {
		base.Ies = make([]api.Ie, number)
		packs(t, base)
	}
	for _, size := range []int{199, 200, 201, 255, 256, 257, 456, 990, 65536, 65736} {
		for _, number := range []int{1, 2, 4} {
			for at := range number {
				base.Ies = many(number, 2)
				base.Ies[at].Body = make([]byte, size)
				packs(t, base)
			}
		}
	}
}

// P16.1: what can't be is told ahead of what is too long.
func TestCannotBeAndTooLong(t *testing.T) {
	long := many(5, 200)
	for _, m := range []api.Message{
		{Ref: 0, Kind: api.Setup, Ies: long},
		{Ref: api.MaxRef + 1, Kind: api.Setup, Ies: long},
		{Ref: 5, Kind: 6, Ies: long},
		{Ref: 5, Kind: api.Setup, Ies: many(17, 200)},
		{Ref: 5, Kind: api.Setup, Ies: many(5, 201)},
		{},
	} {
		if b, e := message.Pack(m); len(b) != 0 || e != api.ErrArg {
			t.Errorf("Pack(%v): %v, %d", m, b, e)
		}
	}
	m := api.Message{Ref: 5, Kind: api.Setup, Ies: long}
	if b, e := message.Pack(m); len(b) != 0 || e != api.ErrLong {
		t.Errorf("Pack(%v): %v, %d", m, b, e)
	}
	if !message.Right(m) {
		t.Errorf("Right(%v): false", m)
	}
}

// P16.1: elements of each number of bytes, to the most that there may be and beyond.
func TestHowLong(t *testing.T) {
	for size := range 1300 {
		if size > 0 && size < 4 {
			continue
		}
		l := filling(size)
		if len(laidList(l)) != size || !canPack(l) {
			t.Fatalf("filling(%d): %v", size, l)
		}
		for _, back := range []bool{false, true} {
			m := api.Message{Ref: 77, Back: back, Kind: five[size%5], Ies: l}
			packs(t, m)
			unpacks(t, whole(m))
			b, e := message.Pack(m)
			if size <= 991 && (len(b) != 9+size || e != api.OK) {
				t.Fatalf("%d bytes of elements: %v, %d", size, b, e)
			}
			if size > 991 && (len(b) != 0 || e != api.ErrLong) {
				t.Fatalf("%d bytes of elements: %v, %d", size, b, e)
			}
		}
	}
}

// P16.1: bytes of each length, of a message cut off, of one with more behind, and of others.
func TestEachLength(t *testing.T) {
	longest := whole(api.Message{Ref: 5, Kind: api.Setup, Ies: filling(991)})
	more := append(bytes.Clone(longest), make([]byte, 300)...)
	none := whole(api.Message{Ref: 5, Kind: api.Setup})
	tail := append(bytes.Clone(none), make([]byte, 1300)...)
	for size := range 1300 {
		unpacks(t, more[:size])
		unpacks(t, tail[:size])
		unpacks(t, make([]byte, size))
		unpacks(t, bytes.Repeat([]byte{0xff}, size))
		switch {
		case size > 1000:
			refused(t, more[:size], api.ErrLong)
			refused(t, tail[:size], api.ErrLong)
			refused(t, make([]byte, size), api.ErrLong)
		case size < 9:
			refused(t, more[:size], api.ErrShort)
			refused(t, make([]byte, size), api.ErrShort)
			refused(t, bytes.Repeat([]byte{0xff}, size), api.ErrShort)
		case size < 1000:
			refused(t, more[:size], api.ErrShort)
		}
		if size > 9 && size <= 1000 {
			refused(t, tail[:size], api.ErrTail)
		}
	}
	unpacks(t, nil)
	refused(t, make([]byte, 65545), api.ErrLong)
	refused(t, append(bytes.Clone(none), make([]byte, 65536)...), api.ErrLong)
}

// P16.1: each first byte with each second one, and each seventh.
func TestFixedBytes(t *testing.T) {
	for _, m := range []api.Message{{Ref: 5, Kind: api.Setup}, {Ref: 9, Back: true, Kind: api.Complete, Ies: []api.Ie{cause(3)}}} {
		for first := range 256 {
			for second := range 256 {
				b := whole(m)
				b[0], b[1] = byte(first), byte(second)
				if first != 9 || second != 3 {
					refused(t, b, api.ErrForm)
				} else {
					unpacks(t, b)
				}
			}
			b := whole(m)
			b[6] = byte(first)
			if first != 128 {
				refused(t, b, api.ErrForm)
			} else {
				unpacks(t, b)
			}
		}
	}
}

// P16.1: each two bytes of the first, second and seventh wrong in one bit, and all three.
func TestFixedBytesTogether(t *testing.T) {
	for bit := range 8 {
		for turned := range 8 {
			b := whole(api.Message{Ref: 5, Kind: api.Setup, Ies: []api.Ie{cause(3)}})
			for i, at := range []int{0, 1, 6} {
				if turned>>i&1 == 1 {
					b[at] ^= 1 << bit
				}
			}
			if turned != 0 {
				refused(t, b, api.ErrForm)
			}
			unpacks(t, b)
		}
	}
}

// P16.1: Refs of 0, and each one's three bytes, one in 61 of all.
func TestRefsBytes(t *testing.T) {
	for _, high := range []byte{0, 0x80} {
		for _, kind := range five {
			refused(t, []byte{9, 3, high, 0, 0, byte(kind), 0x80, 0, 0}, api.ErrForm)
		}
		for _, low := range [][2]byte{{0, 1}, {1, 0}, {0, 0x80}, {0x80, 0}} {
			b := []byte{9, 3, high, low[0], low[1], 5, 0x80, 0, 0}
			m, e := message.Unpack(b)
			if m.Ref != 256*int(low[0])+int(low[1]) || m.Back != (high != 0) || e != api.OK {
				t.Errorf("Unpack(%v): %v, %d", b, m, e)
			}
		}
	}
	for ref := 0; ref < 1<<24; ref += 61 {
		unpacks(t, []byte{9, 3, byte(ref >> 16), byte(ref >> 8), byte(ref), 5, 0x80, 0, 0})
	}
	for bit := range 24 {
		ref := 1 << bit
		unpacks(t, []byte{9, 3, byte(ref >> 16), byte(ref >> 8), byte(ref), 5, 0x80, 0, 0})
	}
}

// P16.1: each byte as a kind.
func TestKindsByte(t *testing.T) {
	for kind := range 256 {
		for _, m := range []api.Message{{Ref: 5}, {Ref: 9, Back: true, Ies: []api.Ie{cause(3), {Id: 1}}}} {
			m.Kind = kind
			if slices.Contains(five, kind) {
				unpacks(t, whole(m))
			} else {
				refused(t, whole(m), api.ErrKind)
			}
		}
	}
}

// P16.1: each number of bytes behind the ninth that can be told, with some that there are.
func TestHowManyBehind(t *testing.T) {
	for told := range 65536 {
		for _, there := range []int{0, 4, 6, 255, 256, 260, 512, 991} {
			b := laid(api.Message{Ref: 5, Kind: api.Setup}, laidList(filling(there)))
			b[7], b[8] = byte(told/256), byte(told%256)
			switch {
			case told > there:
				refused(t, b, api.ErrShort)
			case told < there:
				refused(t, b, api.ErrTail)
			default:
				unpacks(t, b)
				if _, e := message.Unpack(b); e != api.OK {
					t.Fatalf("Unpack(%v): %d", b, e)
				}
			}
		}
	}
}

// oddLists are bytes that aren't elements, with the error of layer 15 that each has.
func oddLists() map[string]api.Errno {
	odd := map[string]api.Errno{}
	for _, ahead := range [][]api.Ie{nil, {cause(3)}, many(15, 2)} {
		for _, x := range []struct {
			last string
			want api.Errno
		}{
			{"\x08", api.ErrShort}, {"\x08\x80", api.ErrShort}, {"\x08\x80\x00", api.ErrShort},
			{"\x08\x80\x00\x02\x00", api.ErrShort}, {"\x08\x80\x00\xc8", api.ErrShort},
			{"\x08\x00\x00\x00", api.ErrForm}, {"\x08\x81\x00\xc9", api.ErrForm},
			{"\x08\x80\x00\xc9", api.ErrLong}, {"\x08\x80\x01\x00", api.ErrLong},
		} {
			odd[string(laidList(ahead))+x.last] = x.want
		}
	}
	odd[string(laidList(many(17, 0)))] = api.ErrLong
	odd[string(laidList(many(17, 3)))] = api.ErrLong
	odd[string(laidList(many(16, 3)))+"\x08"] = api.ErrLong
	odd[string(laidList([]api.Ie{{Body: make([]byte, 201)}}))] = api.ErrLong
	return odd
}

// P16.1: elements that are wrong in each way of layer 15.
func TestOddElements(t *testing.T) {
	for list, want := range oddLists() {
		for _, kind := range five {
			b := laid(api.Message{Ref: 5, Kind: kind}, []byte(list))
			refused(t, b, want)
			b[8]++
			refused(t, b, api.ErrShort)
			b[8] -= 2
			refused(t, b, api.ErrTail)
		}
	}
}

// P16.1: whichever errors apply together, the first one is told.
func TestErrorsInOrder(t *testing.T) {
	behinds := [][]byte{nil, {8}, {8, 0, 0, 0}, {8, 0x80, 0, 201}, {8, 0x80, 0, 2, 0, 35}, laidList(many(17, 0)), laidList(filling(991)), laidList(filling(992)), make([]byte, 992)}
	for faults := range 1 << 7 {
		has := func(i int) bool { return faults>>i&1 == 1 }
		for _, behind := range behinds {
			for _, more := range []int{-1, 0, 1, 300} {
				b := laid(api.Message{Ref: 5, Back: faults%3 == 0, Kind: api.Setup}, behind)
				told := max(len(behind)+more, 0)
				b[7], b[8] = byte(told/256), byte(told%256)
				for i, at := range []int{0, 1, 6} {
					if has(i) {
						b[at]++
					}
				}
				if has(3) {
					b[4] = 0
				}
				if has(4) {
					b[5] = 6
				}
				if has(5) {
					b = append(b, make([]byte, 1001)...)
				}
				if has(6) {
					b = b[:8]
				}
				unpacks(t, b)
				refusedInOrder(t, b, has)
			}
		}
	}
}

// refusedInOrder holds the errors of the bytes ahead of the elements by which faults were made.
func refusedInOrder(t *testing.T, b []byte, has func(int) bool) {
	t.Helper()
	switch {
	case has(6):
		refused(t, b, api.ErrShort)
	case has(5) || len(b) > 1000:
		refused(t, b, api.ErrLong)
	case has(0) || has(1) || has(2) || has(3):
		refused(t, b, api.ErrForm)
	case has(4):
		refused(t, b, api.ErrKind)
	}
}

// P16.1, P16.4: bytes near those of a message, by a fixed rule: some turned, some cut off, some more.
func TestUnpackNearRightOnes(t *testing.T) {
	n := noise(3)
	for range 60000 {
		b := whole(n.message())
		for range n.below(3) {
			at := []int{n.below(len(b)), n.below(9)}[n.below(2)]
			b[at] = byte([]int{n.below(256), int(b[at]) ^ 1<<n.below(8), 0, 5}[n.below(4)])
		}
		switch n.below(5) {
		case 0:
			b = b[:n.below(len(b)+1)]
		case 1:
			b = append(b, n.bytes(n.below(9))...)
		}
		unpacks(t, b)
	}
}

// P16.4: what was packed is unpacked, and packed again to what it was.
func TestThereAndBack(t *testing.T) {
	n := noise(4)
	for range 20000 {
		m := n.message()
		packs(t, m)
		unpacks(t, whole(m))
	}
}

// answers are messages of which there are answers: such that can be, and such that can't.
func answers() []api.Message {
	l := []api.Message{
		{}, {Back: true}, {Ref: 5, Kind: api.Setup}, {Ref: 5, Back: true, Kind: api.Complete, Ies: []api.Ie{cause(3), cause(4)}},
		{Ref: 6, Kind: 99, Ies: many(17, 201)}, {Ref: api.MaxRef, Back: true, Kind: -1, Ies: []api.Ie{{Id: 0x08}}},
	}
	for _, ref := range oddRefs {
		l = append(l, api.Message{Ref: ref, Back: ref%2 == 0, Kind: api.Setup})
	}
	return l
}

// answersTo holds an answer by the promise's words, and what else is promised of it.
func answersTo(t *testing.T, m api.Message, kind, code int) {
	t.Helper()
	was := own(m)
	want, told := api.Message{Ref: m.Ref, Back: !m.Back, Kind: kind}, 0
	if code >= 1 && code <= 127 {
		want.Ies, told = []api.Ie{{Id: 0x08, Body: []byte{0, byte(code)}}}, code
	}
	a := message.Answer(m, kind, code)
	if !same(a, want) {
		t.Fatalf("Answer(%v, %d, %d): %v, not %v", m, kind, code, a, want)
	}
	if got := message.Cause(a); got != told {
		t.Fatalf("Cause(%v): %d", a, got)
	}
	if b := message.Answer(a, kind, code); b.Back != m.Back || b.Ref != m.Ref {
		t.Fatalf("Answer(%v, %d, %d): %v", a, kind, code, b)
	}
	if !same(m, was) || !same(a, want) {
		t.Fatalf("changed: %v was %v; %v was %v", m, was, a, want)
	}
	packs(t, a)
}

// P16.2, P16.4: answers of each kind and cause.
func TestAnswer(t *testing.T) {
	codes := []int{-1, -127, -128, 1<<32 + 5, 1<<62 + 5, math.MaxInt, math.MinInt, math.MinInt + 5, 0, 1, 2, 35, 126, 127, 128, 129, 255, 256, 257, 383, 65536, 65541}
	for _, m := range answers() {
		for _, kind := range slices.Concat(five, oddKinds()) {
			for _, code := range codes {
				answersTo(t, m, kind, code)
			}
		}
		for code := -300; code <= 1100; code++ {
			answersTo(t, m, api.Release, code)
		}
		for kind := -300; kind <= 600; kind++ {
			answersTo(t, m, kind, 16)
		}
	}
}

// causesIn are elements with the Id of a cause, and what each tells: 0, if it tells an error.
var causesIn = []struct {
	body []byte
	want int
}{
	{[]byte{0, 35}, 35}, {[]byte{0, 1}, 1}, {[]byte{0, 127}, 127}, {[]byte{0, 0}, 0},
	{[]byte{0, 128}, 0}, {[]byte{1, 35}, 0}, {[]byte{0x80, 35}, 0}, {nil, 0}, {[]byte{35}, 0}, {[]byte{0, 0, 35}, 0}, {[]byte{0, 35, 0}, 0},
}

// P16.2: the first cause counts, wherever it stands, even where it tells an error.
func TestCause(t *testing.T) {
	others := [][]api.Ie{nil, {{}}, {{Id: 0x59, Body: []byte{0, 9}}}, {{Id: 0x88, Body: []byte{0, 9}}, {Id: 0x5a}}, many(8, 2), filling(600)}
	for _, ahead := range others {
		if got := message.Cause(api.Message{Ref: 5, Kind: api.Release, Ies: ahead}); got != 0 {
			t.Errorf("Cause of %v: %d", ahead, got)
		}
		for _, x := range causesIn {
			for _, behind := range slices.Concat(others, [][]api.Ie{{cause(9)}, {{Id: 0x08}}, {{Id: 7}, cause(10)}}) {
				m := api.Message{Ref: 5, Kind: api.Release, Ies: slices.Concat(ahead, []api.Ie{{Id: 0x08, Body: x.body}}, behind)}
				was := own(m)
				if got := message.Cause(m); got != x.want {
					t.Errorf("Cause(%v): %d", m, got)
				}
				if !same(m, was) {
					t.Errorf("changed: %v was %v", m, was)
				}
			}
		}
	}
}

// P16.2: each cause of two bytes, of any message, and of ones that can't be.
func TestEachCause(t *testing.T) {
	for code := range 65536 {
		want := 0
		if code <= 127 {
			want = code
		}
		m := api.Message{Ies: []api.Ie{{Id: 0x08, Body: []byte{byte(code / 256), byte(code % 256)}}}}
		if got := message.Cause(m); got != want {
			t.Fatalf("Cause(%v): %d", m, got)
		}
	}
	for _, kind := range slices.Concat(five, oddKinds()) {
		for _, ref := range slices.Concat(goodRefs, oddRefs) {
			if got := message.Cause(api.Message{Ref: ref, Kind: kind, Ies: append(many(8, 201), cause(7))}); got != 7 {
				t.Fatalf("Cause with the kind %v and the Ref %v: %d", kind, ref, got)
			}
		}
	}
	late := append(make([]api.Ie, 40), cause(7))
	if got := message.Cause(api.Message{Ies: late}); got != 7 {
		t.Errorf("Cause behind forty: %d", got)
	}
}

// traffics are elements with the Id of traffic, with what each tells.
func traffics() []told[api.Contract] {
	var l []told[api.Contract]
	for _, c := range []api.Contract{
		{Kind: api.Cbr1, Peak: 9}, {Kind: api.Vbr3, Peak: 2, Early: 1, Whole: 10, Burst: 40},
		{Kind: api.Abr, Peak: 1 << 20, Early: 5, Least: 1 << 40}, {Kind: api.Ubr2, Peak: 1 << 40, Early: 1 << 40},
	} {
		l = append(l, told[api.Contract]{api.Ie{Id: 0x59, Body: trafficOf(c)}, c, api.OK})
	}
	for _, c := range []api.Contract{{Kind: 8, Peak: 9}, {Peak: 9}} {
		l = append(l, told[api.Contract]{x: api.Ie{Id: 0x59, Body: trafficOf(c)}, e: api.ErrKind})
	}
	for _, c := range []api.Contract{{Kind: api.Cbr1}, {Kind: api.Cbr1, Peak: 9, Whole: 1}, {Kind: api.Vbr1, Peak: 9, Whole: 8}} {
		l = append(l, told[api.Contract]{x: api.Ie{Id: 0x59, Body: trafficOf(c)}, e: api.ErrRate})
	}
	for _, size := range []int{0, 5, 30, 32} {
		l = append(l, told[api.Contract]{x: api.Ie{Id: 0x59, Body: make([]byte, size)}, e: api.ErrForm})
	}
	return l
}

// keys are elements with the Id of a key, with what each tells.
func keys() []told[api.Key] {
	return []told[api.Key]{
		{api.Ie{Id: 0x5a, Body: []byte{1, 0, 2, 0, 40}}, api.Key{Port: 1, Vpi: 2, Vci: 40}, api.OK},
		{api.Ie{Id: 0x5a, Body: []byte{0, 0, 0, 0, 0}}, api.Key{}, api.OK},
		{api.Ie{Id: 0x5a, Body: []byte{7, 15, 255, 255, 255}}, api.Key{Port: 7, Vpi: 4095, Vci: 65535}, api.OK},
		{x: api.Ie{Id: 0x5a, Body: []byte{8, 0, 2, 0, 40}}, e: api.ErrArg},
		{x: api.Ie{Id: 0x5a, Body: []byte{1, 16, 0, 0, 40}}, e: api.ErrArg},
		{x: api.Ie{Id: 0x5a, Body: []byte{1, 0, 2, 0}}, e: api.ErrForm},
		{x: api.Ie{Id: 0x5a, Body: []byte{1, 0, 2, 0, 40, 0}}, e: api.ErrForm},
		{x: api.Ie{Id: 0x5a}, e: api.ErrForm},
	}
}

// told is an element, and what it tells.
type told[T any] struct {
	x    api.Ie
	want T
	e    api.Errno
}

// trafficOf is a contract's Body by layer 15's words.
func trafficOf(c api.Contract) []byte {
	b := make([]byte, 31)
	b[0] = byte(c.Kind)
	for at, x := range map[int]int{1: c.Peak, 7: c.Early, 13: c.Whole, 19: c.Burst, 25: c.Least} {
		for i := 5; i >= 0; i-- {
			b[at+i] = byte(x % 256)
			x /= 256
		}
	}
	return b
}

// calls holds what Call answers of a message, and that it is left as it is.
func calls(t *testing.T, m api.Message, c api.Contract, k api.Key, want api.Errno) {
	t.Helper()
	was := own(m)
	gotC, gotK, e := message.Call(m)
	if gotC != c || gotK != k || e != want {
		t.Fatalf("Call(%v): %v, %v, %d, not %v, %v, %d", m, gotC, gotK, e, c, k, want)
	}
	if !same(m, was) {
		t.Fatalf("changed: %v was %v", m, was)
	}
}

// both is what is told of two elements together: traffic's error comes first, and neither is told beside one.
func both(x told[api.Contract], y told[api.Key]) (api.Contract, api.Key, api.Errno) {
	switch {
	case x.e != api.OK:
		return api.Contract{}, api.Key{}, x.e
	case y.e != api.OK:
		return api.Contract{}, api.Key{}, y.e
	}
	return x.want, y.want, api.OK
}

// P16.3: traffic and key in each order, with others ahead, between and behind.
func TestCall(t *testing.T) {
	others := [][]api.Ie{nil, {cause(3)}, {{}, {Id: 0x58, Body: make([]byte, 31)}, {Id: 0x5b, Body: make([]byte, 5)}}, many(8, 5), filling(700)}
	for _, x := range traffics() {
		for _, y := range keys() {
			c, k, e := both(x, y)
			for i, ahead := range others {
				between, behind := others[(i+1)%len(others)], others[(i+2)%len(others)]
				for _, pair := range [][2]api.Ie{{x.x, y.x}, {y.x, x.x}} {
					l := slices.Concat(ahead, []api.Ie{pair[0]}, between, []api.Ie{pair[1]}, behind)
					calls(t, api.Message{Ref: 5, Kind: api.Setup, Ies: l}, c, k, e)
				}
			}
		}
	}
}

// P16.3: of several of traffic, or of a key, the first one counts.
func TestCallOfTheFirst(t *testing.T) {
	for _, x := range traffics() {
		for _, y := range keys() {
			c, k, e := both(x, y)
			for _, x2 := range traffics() {
				calls(t, api.Message{Kind: api.Setup, Ies: []api.Ie{x.x, x2.x, y.x}}, c, k, e)
				calls(t, api.Message{Kind: api.Setup, Ies: []api.Ie{x.x, y.x, x2.x}}, c, k, e)
			}
			for _, y2 := range keys() {
				calls(t, api.Message{Kind: api.Setup, Ies: []api.Ie{y.x, y2.x, x.x}}, c, k, e)
				calls(t, api.Message{Kind: api.Setup, Ies: []api.Ie{y.x, x.x, y2.x}}, c, k, e)
			}
		}
	}
}

// P16.3: one of the two alone, or none, is ErrNone, whatever else is wrong.
func TestCallWithoutOne(t *testing.T) {
	setup := api.Message{Ref: 5, Kind: api.Setup}
	calls(t, setup, api.Contract{}, api.Key{}, api.ErrNone)
	for _, x := range traffics() {
		setup.Ies = []api.Ie{x.x}
		calls(t, setup, api.Contract{}, api.Key{}, api.ErrNone)
		setup.Ies = []api.Ie{cause(3), x.x, {}, x.x}
		calls(t, setup, api.Contract{}, api.Key{}, api.ErrNone)
	}
	for _, y := range keys() {
		setup.Ies = []api.Ie{y.x}
		calls(t, setup, api.Contract{}, api.Key{}, api.ErrNone)
		setup.Ies = []api.Ie{cause(3), y.x, {}, y.x}
		calls(t, setup, api.Contract{}, api.Key{}, api.ErrNone)
	}
	setup.Ies = []api.Ie{cause(3)}
	calls(t, setup, api.Contract{}, api.Key{}, api.ErrNone)
}

// P16.3: what isn't a Setup is ErrKind ahead of all else; no other thing of a message counts.
func TestCallOfEachKind(t *testing.T) {
	for _, kind := range slices.Concat(five, oddKinds()) {
		for _, x := range traffics() {
			for _, y := range keys() {
				c, k, e := both(x, y)
				if kind != 0x05 {
					c, k, e = api.Contract{}, api.Key{}, api.ErrKind
				}
				for _, ref := range []int{0, 5, -1, api.MaxRef + 1} {
					calls(t, api.Message{Ref: ref, Back: ref%2 == 0, Kind: kind, Ies: []api.Ie{x.x, y.x}}, c, k, e)
				}
			}
		}
		if kind != 0x05 {
			calls(t, api.Message{Ref: 5, Kind: kind}, api.Contract{}, api.Key{}, api.ErrKind)
		}
	}
	x, y := traffics()[0], keys()[0]
	late := append(make([]api.Ie, 40), y.x, api.Ie{Body: make([]byte, 300)}, x.x)
	calls(t, api.Message{Kind: api.Setup, Ies: late}, x.want, y.want, api.OK)
}

// P16.3, P16.4: a call that was packed is asked for once more.
func TestCallThereAndBack(t *testing.T) {
	for _, x := range traffics() {
		for _, y := range keys() {
			c, k, e := both(x, y)
			m := api.Message{Ref: 5, Kind: api.Setup, Ies: []api.Ie{cause(3), y.x, x.x}}
			got, wrong := message.Unpack(whole(m))
			if wrong != api.OK {
				t.Fatalf("Unpack: %d", wrong)
			}
			calls(t, got, c, k, e)
		}
	}
	x, _ := element.Traffic(api.Contract{Kind: api.Cbr1, Peak: 9})
	y, _ := element.Key(api.Key{Port: 7, Vci: 40})
	calls(t, api.Message{Kind: api.Setup, Ies: []api.Ie{x, y}}, api.Contract{Kind: api.Cbr1, Peak: 9}, api.Key{Port: 7, Vci: 40}, api.OK)
}

// R3: what is answered shares no memory with what was handed in, nor with another answer.
func TestOwnMemory(t *testing.T) {
	n := noise(5)
	for range 300 {
		m := n.message()
		was, want := own(m), whole(m)
		b, _ := message.Pack(m)
		again, _ := message.Pack(m)
		spoil(m)
		if !bytes.Equal(b, want) {
			t.Fatalf("Pack's bytes hang on the message: %v", b)
		}
		clear(again)
		got, _ := message.Unpack(b)
		other, _ := message.Unpack(b)
		clear(b)
		spoil(other)
		if !same(got, was) {
			t.Fatalf("Unpack's message hangs on the bytes, or on another one: %v, not %v", got, was)
		}
		for i := range got.Ies {
			_ = append(got.Ies[i].Body, 0xee, 0xee)
		}
		if !same(got, was) {
			t.Fatalf("Bodies lie behind each other in one memory: %v, not %v", got, was)
		}
	}
	m := api.Message{Ref: 5, Kind: api.Release, Ies: []api.Ie{cause(3)}}
	a, other := message.Answer(m, api.Complete, 3), message.Answer(m, api.Complete, 3)
	spoil(m)
	spoil(other)
	if !same(a, api.Message{Ref: 5, Back: true, Kind: api.Complete, Ies: []api.Ie{cause(3)}}) {
		t.Errorf("Answer: %v", a)
	}
}

// spoil turns all bytes of a message's elements, and its elements, to others.
func spoil(m api.Message) {
	for i := range m.Ies {
		for j := range m.Ies[i].Body {
			m.Ies[i].Body[j] ^= 0xff
		}
		m.Ies[i] = api.Ie{Id: 0xee}
	}
}

// R3: what lies behind bytes that are handed in is left as it is.
func TestWhatLiesBehind(t *testing.T) {
	b := append(whole(api.Message{Ref: 5, Kind: api.Setup, Ies: []api.Ie{cause(3)}}), 1, 2, 3)
	m, _ := message.Unpack(b[:len(b)-3])
	_ = append(m.Ies[0].Body, 9, 9, 9)
	if !bytes.Equal(b[len(b)-3:], []byte{1, 2, 3}) {
		t.Errorf("%v", b)
	}
	l := []api.Ie{cause(3), {Id: 7, Body: []byte{1}}}
	x := api.Message{Ref: 5, Kind: api.Setup, Ies: l[:1]}
	got, _ := message.Pack(x)
	_ = append(got, 9, 9, 9)
	_ = message.Answer(x, api.Release, 5)
	if !sameIe(l[0], cause(3)) || !sameIe(l[1], api.Ie{Id: 7, Body: []byte{1}}) {
		t.Errorf("%v", l)
	}
}

// R4: no elements may be nil or empty: that is alike.
func TestNilOrEmpty(t *testing.T) {
	for _, l := range [][]api.Ie{nil, {}, make([]api.Ie, 3)[:0]} {
		m := api.Message{Ref: 5, Kind: api.Setup, Ies: l}
		packs(t, m)
		calls(t, m, api.Contract{}, api.Key{}, api.ErrNone)
		if got := message.Cause(m); got != 0 {
			t.Errorf("Cause: %d", got)
		}
		for _, body := range [][]byte{nil, {}, make([]byte, 3)[:0]} {
			packs(t, api.Message{Ref: 5, Kind: api.Setup, Ies: []api.Ie{{Id: 8, Body: body}}})
		}
	}
}

// R5: asked again, in any order, each call answers the same.
func TestAskedAgain(t *testing.T) {
	m := api.Message{Ref: 5, Kind: api.Setup, Ies: []api.Ie{cause(3), keys()[0].x, traffics()[0].x}}
	b := whole(m)
	for range 3 {
		packs(t, m)
		refused(t, b[:8], api.ErrShort)
		unpacks(t, b)
		calls(t, m, traffics()[0].want, keys()[0].want, api.OK)
		answersTo(t, m, api.Release, 16)
		if got := message.Cause(m); got != 3 {
			t.Errorf("Cause: %d", got)
		}
	}
}
