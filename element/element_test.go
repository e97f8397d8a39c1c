package element_test

import (
	"bytes"
	"math"
	"slices"
	"testing"

	"trunkline/api"
	"trunkline/contract"
	"trunkline/element"
)

const long = contract.Longest

// The seven kinds, and those of them with a Whole and a Burst.
var (
	seven = []int{api.Cbr1, api.Vbr1, api.Vbr2, api.Vbr3, api.Abr, api.Ubr1, api.Ubr2}
	vbr   = []int{api.Vbr1, api.Vbr2, api.Vbr3}
)

// sizes are how many bytes a Body has in what is tried: the edges, those next to them, and those that come to few again if only one byte, or two, are counted.
var sizes = []int{0, 1, 2, 3, 4, 5, 31, 127, 128, 199, 200, 201, 255, 256, 257, 456, 65535, 65536, 65537, 65736}

// noise makes numbers by a fixed rule, so that every run has the same ones.
type noise uint64

func (n *noise) below(most int) int {
	*n = *n*6364136223846793005 + 1442695040888963407
	return int((uint64(*n) >> 32) % uint64(most))
}

func (n *noise) bytes(many int) []byte {
	b := make([]byte, many)
	for i := range b {
		b[i] = byte(n.below(256))
	}
	return b
}

// list is one of so many that can be packed; many of the Bodies have no byte, or as many as may be.
func (n *noise) list(many int) []api.Ie {
	var l []api.Ie
	for range many {
		size := []int{0, 1, n.below(201), n.below(12), 199, 200}[n.below(6)]
		l = append(l, api.Ie{Id: byte(n.below(256)), Body: n.bytes(size)})
	}
	return l
}

// span is one that may be: often an edge, and of any size else.
func (n *noise) span(least int) int {
	if n.below(4) == 0 {
		return []int{least, min(least+1, long), long - (long-least)/2, long}[n.below(4)]
	}
	return least + (n.below(1<<24)<<24+n.below(1<<24))%(long-least+1)>>n.below(40)
}

// contract is one that can be, of that kind.
func (n *noise) contract(kind int) api.Contract {
	c := api.Contract{Kind: kind, Peak: n.span(1), Early: n.span(0)}
	switch {
	case slices.Contains(vbr, kind):
		c.Whole, c.Burst = n.span(c.Peak), n.span(0)
	case kind == api.Abr && n.below(3) != 0:
		c.Least = n.span(c.Peak)
	}
	return c
}

func (n *noise) key() api.Key {
	return api.Key{Port: n.below(8), Vpi: n.below(4096), Vci: n.below(65536)}
}

// laid is a list's bytes by the chapter's words, whether it may be packed or not.
func laid(l []api.Ie) []byte {
	b := []byte{}
	for _, x := range l {
		n := len(x.Body)
		b = append(b, x.Id, 128, byte(n/256), byte(n%256))
		b = append(b, x.Body...)
	}
	return b
}

// trafficOf is a contract's Body by the chapter's words, whether it can be or not: each span divided by 256 from its end on.
func trafficOf(c api.Contract) []byte {
	b := make([]byte, 31)
	b[0] = byte(c.Kind)
	for at, x := range map[int]int{1: c.Peak, 7: c.Early, 13: c.Whole, 19: c.Burst, 25: c.Least} {
		for i := 5; i >= 0; i-- {
			b[at+i] = byte(x % 256)
			x /= 256
		}
	}
	return b
}

// keyOf is a key's Body, likewise.
func keyOf(k api.Key) []byte {
	return []byte{byte(k.Port), byte(k.Vpi / 256), byte(k.Vpi % 256), byte(k.Vci / 256), byte(k.Vci % 256)}
}

// keyCanBe is layer 9's words.
func keyCanBe(k api.Key) bool {
	return k.Port >= 0 && k.Port <= 7 && k.Vpi >= 0 && k.Vpi <= 4095 && k.Vci >= 0 && k.Vci <= 65535
}

// read is what Unpack must answer by the promise's words: one sentence behind the other, for each element.
func read(b []byte) ([]api.Ie, api.Errno) {
	var l []api.Ie
	for at := 0; at != len(b); {
		left := len(b) - at
		if len(l) == 16 {
			return nil, api.ErrLong
		}
		if left <= 3 {
			return nil, api.ErrShort
		}
		if b[at+1] != 128 {
			return nil, api.ErrForm
		}
		n := 256*int(b[at+2]) + int(b[at+3])
		if n >= 201 {
			return nil, api.ErrLong
		}
		if left < 4+n {
			return nil, api.ErrShort
		}
		l = append(l, api.Ie{Id: b[at], Body: b[at+4 : at+4+n]})
		at += 4 + n
	}
	return l, api.OK
}

func sameIe(a, b api.Ie) bool { return a.Id == b.Id && bytes.Equal(a.Body, b.Body) }

func sameList(a, b []api.Ie) bool { return slices.EqualFunc(a, b, sameIe) }

// own is a list in memory of its own.
func own(l []api.Ie) []api.Ie {
	m := slices.Clone(l)
	for i := range m {
		m[i].Body = bytes.Clone(m[i].Body)
	}
	return m
}

// packs holds that a list is packed as the chapter says, unpacked to what it was, and left as it is.
func packs(t *testing.T, l []api.Ie) {
	t.Helper()
	was, want := own(l), laid(l)
	b, e := element.Pack(l)
	if !bytes.Equal(b, want) || e != api.OK {
		t.Fatalf("Pack(%x): %x, %d, not %x", l, b, e, want)
	}
	if got, e := element.Unpack(b); !sameList(got, was) || e != api.OK {
		t.Fatalf("Unpack(%x): %x, %d, not %x", b, got, e, was)
	}
	if !sameList(l, was) || !bytes.Equal(b, want) {
		t.Fatalf("changed: %x was %x; %x was %x", l, was, b, want)
	}
}

// tooLong holds that a list isn't packed.
func tooLong(t *testing.T, l []api.Ie) {
	t.Helper()
	if b, e := element.Pack(l); len(b) != 0 || e != api.ErrLong {
		t.Fatalf("Pack of %d elements: %x, %d", len(l), b, e)
	}
}

// unpacks holds that bytes are unpacked as the promise says, packed to what they were, and left as they are.
func unpacks(t *testing.T, b []byte) {
	t.Helper()
	was := bytes.Clone(b)
	want, wrong := read(was)
	l, e := element.Unpack(b)
	if !sameList(l, want) || e != wrong {
		t.Fatalf("Unpack(%x): %x, %d, not %x, %d", b, l, e, want, wrong)
	}
	if !bytes.Equal(b, was) {
		t.Fatalf("changed: %x was %x", b, was)
	}
	if e != api.OK {
		return
	}
	if again, e := element.Pack(l); !bytes.Equal(again, was) || e != api.OK {
		t.Fatalf("Pack(%x): %x, %d, not %x", l, again, e, was)
	}
}

// refused holds that bytes are refused with that error.
func refused(t *testing.T, b []byte, want api.Errno) {
	t.Helper()
	if l, e := element.Unpack(b); len(l) != 0 || e != want {
		t.Fatalf("Unpack(%x): %x, %d, not %d", b, l, e, want)
	}
	unpacks(t, b)
}

// many is a list of so many elements, each with a Body of so many bytes.
func many(number, size int) []api.Ie {
	var l []api.Ie
	for i := range number {
		l = append(l, api.Ie{Id: byte(i), Body: bytes.Repeat([]byte{byte(7 * i)}, size)})
	}
	return l
}

// The numbers that other layers count on.
func TestNumbers(t *testing.T) {
	got := []int{element.TrafficId, element.KeyId, element.CauseId, element.MaxBody, element.MaxMany}
	if !slices.Equal(got, []int{89, 90, 8, 200, 16}) {
		t.Errorf("%d", got)
	}
}

// P15.1, P15.2: the chapter's example, from the cause to the bytes and back.
func TestExample(t *testing.T) {
	x, e := element.Cause(35)
	if e != api.OK {
		t.Fatalf("Cause: %d", e)
	}
	b, e := element.Pack([]api.Ie{x})
	if e != api.OK || !bytes.Equal(b, []byte{0x08, 0x80, 0x00, 0x02, 0x00, 0x23}) {
		t.Errorf("Pack: %x, %d", b, e)
	}
	l, e := element.Unpack(b)
	if e != api.OK || len(l) != 1 {
		t.Fatalf("Unpack: %x, %d", l, e)
	}
	if code, e := element.ReadCause(l[0]); code != 35 || e != api.OK {
		t.Errorf("ReadCause: %d, %d", code, e)
	}
}

// P15.1: bytes written out.
func TestPackWrittenOut(t *testing.T) {
	for _, x := range []struct {
		l    []api.Ie
		want []byte
	}{
		{nil, nil},
		{[]api.Ie{}, nil},
		{[]api.Ie{{}}, []byte{0, 0x80, 0, 0}},
		{[]api.Ie{{Id: 0xff, Body: []byte{}}}, []byte{0xff, 0x80, 0, 0}},
		{[]api.Ie{{Id: 3, Body: []byte{9}}, {Id: 3, Body: []byte{9}}}, []byte{3, 0x80, 0, 1, 9, 3, 0x80, 0, 1, 9}},
		{
			[]api.Ie{{Id: 0x80, Body: []byte{0x80, 0, 1}}, {Id: 4}, {Id: 5, Body: []byte{6, 7}}},
			[]byte{0x80, 0x80, 0, 3, 0x80, 0, 1, 4, 0x80, 0, 0, 5, 0x80, 0, 2, 6, 7},
		},
	} {
		if b, e := element.Pack(x.l); !bytes.Equal(b, x.want) || e != api.OK {
			t.Errorf("Pack(%x): %x, %d", x.l, b, e)
		}
		if l, e := element.Unpack(x.want); !sameList(l, x.l) || e != api.OK {
			t.Errorf("Unpack(%x): %x, %d", x.want, l, e)
		}
		packs(t, x.l)
	}
}

// P15.1, P15.3: lists of each number of elements, up to the most and beyond.
func TestHowMany(t *testing.T) {
	for number := range 40 {
		for _, size := range []int{0, 1, 199, 200} {
			l := many(number, size)
			if number <= 16 {
				packs(t, l)
			} else {
				tooLong(t, l)
				refused(t, laid(l), api.ErrLong)
			}
		}
	}
	for _, number := range []int{256, 272, 65536, 65537} {
		tooLong(t, make([]api.Ie, number))
	}
}

// P15.1, P15.3: Bodies of each size, up to the greatest and beyond, in each place of a list.
func TestHowLong(t *testing.T) {
	for _, size := range sizes {
		for _, number := range []int{1, 2, 16, 17} {
			for at := range number {
				l := many(number, 2)
				l[at].Body = bytes.Repeat([]byte{5}, size)
				if number <= 16 && size <= 200 {
					packs(t, l)
				} else {
					tooLong(t, l)
				}
			}
		}
	}
	for size := range 201 {
		packs(t, []api.Ie{{Id: 1, Body: bytes.Repeat([]byte{byte(size)}, size)}})
	}
}

// P15.1: each Id, with each byte as its Body's.
func TestEachId(t *testing.T) {
	for id := range 256 {
		for b := range 256 {
			packs(t, []api.Ie{{Id: byte(id), Body: []byte{byte(b)}}, {Id: byte(b)}})
		}
	}
}

// P15.1: no bytes are no elements.
func TestUnpackOfNothing(t *testing.T) {
	for _, b := range [][]byte{nil, {}, make([]byte, 9)[:0]} {
		if l, e := element.Unpack(b); len(l) != 0 || e != api.OK {
			t.Errorf("Unpack(%x): %x, %d", b, l, e)
		}
	}
}

// aheads are lists ahead of the element that is tried: each as many as leave room for one more.
func aheads() [][]api.Ie {
	n := noise(1)
	return [][]api.Ie{nil, {{}}, {{Id: 8, Body: []byte{0, 35}}}, n.list(2), n.list(7), many(15, 0), many(15, 200), n.list(15)}
}

// P15.1: fewer than four bytes left, whatever they are.
func TestFewerThanFour(t *testing.T) {
	for _, ahead := range aheads() {
		for _, left := range [][]byte{{0}, {8}, {0x80}, {8, 0x80}, {8, 0}, {0, 0}, {8, 0x80, 0}, {8, 0, 0}, {8, 0x80, 0xff}, {8, 0xff, 0xff}} {
			refused(t, append(laid(ahead), left...), api.ErrShort)
		}
	}
}

// P15.1: each second byte that isn't 80, whatever is behind it.
func TestSecondByte(t *testing.T) {
	for _, ahead := range aheads() {
		for second := range 256 {
			for _, behind := range [][]byte{{0, 0}, {0, 1, 9}, {0, 1}, {0, 200}, {0, 201}, {0xff, 0xff}, {1, 0}} {
				b := append(laid(ahead), 8, byte(second))
				b = append(b, behind...)
				if second != 0x80 {
					refused(t, b, api.ErrForm)
				} else {
					unpacks(t, b)
				}
			}
		}
	}
}

// P15.1: each number of a Body's bytes, with none of them, with one fewer, with all, and with one more.
func TestTheNumber(t *testing.T) {
	for n := range 65536 {
		head := []byte{1, 0x80, byte(n / 256), byte(n % 256)}
		if n > 200 {
			refused(t, head, api.ErrLong)
			continue
		}
		body := bytes.Repeat([]byte{0x80}, n)
		unpacks(t, slices.Concat(head, body))
		for fewer := 1; fewer <= n; fewer++ {
			refused(t, slices.Concat(head, body[fewer:]), api.ErrShort)
		}
		for more := 1; more <= 3; more++ {
			refused(t, slices.Concat(head, body, make([]byte, more)), api.ErrShort)
		}
		unpacks(t, slices.Concat(head, body, []byte{2, 0x80, 0, 0}))
		refused(t, slices.Concat(head, body, []byte{2, 0, 0, 0}), api.ErrForm)
	}
}

// P15.1: a Body that is too long is refused whether its bytes are there or not, at each place.
func TestTooLongWithItsBody(t *testing.T) {
	for _, ahead := range aheads() {
		for _, n := range []int{201, 255, 256, 257, 456, 512, 65535} {
			b := append(laid(ahead), 1, 0x80, byte(n/256), byte(n%256))
			refused(t, b, api.ErrLong)
			for _, there := range []int{1, n - 1, n, n + 1, n + 4} {
				refused(t, append(bytes.Clone(b), make([]byte, there)...), api.ErrLong)
			}
		}
		for _, n := range []int{1, 199, 200} {
			b := append(laid(ahead), 1, 0x80, 0, byte(n))
			refused(t, b, api.ErrShort)
			refused(t, append(bytes.Clone(b), make([]byte, n-1)...), api.ErrShort)
			unpacks(t, append(bytes.Clone(b), make([]byte, n)...))
		}
	}
}

// P15.1: sixteen elements with something behind: that they are too many comes ahead of what is wrong with it.
func TestSixteenAndMore(t *testing.T) {
	n := noise(2)
	for _, l := range [][]api.Ie{many(16, 0), many(16, 1), many(16, 200), n.list(16)} {
		packs(t, l)
		for _, behind := range [][]byte{{0}, {8, 0x80, 0}, {8, 0, 0, 0}, {8, 0x80, 0, 0}, {8, 0x80, 0, 201}, {8, 0x80, 0, 2, 0}, {8, 0x80, 0, 2, 0, 35}} {
			refused(t, append(laid(l), behind...), api.ErrLong)
		}
	}
	// Of what is wrong with the sixteenth, that is told.
	for _, x := range []struct {
		last []byte
		want api.Errno
	}{{[]byte{8, 0x80, 0}, api.ErrShort}, {[]byte{8, 0, 0, 0, 1}, api.ErrForm}, {[]byte{8, 0x80, 0, 201, 1}, api.ErrLong}, {[]byte{8, 0x80, 0, 2, 0}, api.ErrShort}} {
		refused(t, append(laid(many(15, 3)), x.last...), x.want)
	}
}

// P15.1: what is wrong with an element is told ahead of what is wrong with those behind it.
func TestElementByElement(t *testing.T) {
	odd, large, cut := []byte{1, 0, 0, 0}, []byte{1, 0x80, 0, 201}, []byte{1, 0x80, 0, 200}
	for _, x := range []struct {
		b    [][]byte
		want api.Errno
	}{
		{[][]byte{odd, large}, api.ErrForm},
		{[][]byte{odd, cut}, api.ErrForm},
		{[][]byte{large, odd}, api.ErrLong},
		{[][]byte{large, cut}, api.ErrLong},
		{[][]byte{cut, odd}, api.ErrShort},
		{[][]byte{cut, large}, api.ErrShort},
		{[][]byte{odd, {1, 2, 3}}, api.ErrForm},
		{[][]byte{large, {1, 2, 3}}, api.ErrLong},
		{[][]byte{odd, laid(many(17, 0))}, api.ErrForm},
		{[][]byte{cut, laid(many(17, 0))}, api.ErrShort},
	} {
		refused(t, slices.Concat(x.b...), x.want)
		refused(t, slices.Concat(laid(many(3, 5)), slices.Concat(x.b...)), x.want)
	}
	// Two of one element: the second byte comes ahead of the number, and four bytes ahead of both.
	refused(t, []byte{1, 0, 0xff, 0xff}, api.ErrForm)
	refused(t, []byte{1, 0, 0xff}, api.ErrShort)
	refused(t, []byte{1, 0x80, 0xff}, api.ErrShort)
}

// P15.1: all short rows of few bytes.
func TestShortRows(t *testing.T) {
	few := []byte{0, 1, 2, 0x80, 201}
	var all func(b []byte)
	all = func(b []byte) {
		unpacks(t, b)
		if len(b) == 8 {
			return
		}
		for _, x := range few {
			all(append(bytes.Clone(b), x))
		}
	}
	all(nil)
}

// P15.1, P15.3: lists and bytes of all sorts: right ones, those near them, and those far from them.
func TestManyRows(t *testing.T) {
	n := noise(3)
	for range 6000 {
		l := n.list(n.below(17))
		packs(t, l)
		b := laid(l)
		unpacks(t, b)
		for range 1 + n.below(3) {
			if len(b) > 0 {
				b[n.below(len(b))] = []byte{0, 0x80, 200, 201, byte(n.below(256))}[n.below(5)]
			}
		}
		unpacks(t, b)
		unpacks(t, b[:n.below(len(b)+1)])
		unpacks(t, append(b, n.bytes(n.below(6))...))
		unpacks(t, n.bytes(n.below(40)))
	}
}

// found holds what Find tells.
func found(t *testing.T, l []api.Ie, id byte) {
	t.Helper()
	was := own(l)
	var want api.Ie
	there := false
	for i := len(was) - 1; i >= 0; i-- {
		if was[i].Id == id {
			want, there = was[i], true
		}
	}
	got, ok := element.Find(l, id)
	if !sameIe(got, want) || ok != there {
		t.Fatalf("Find(%x, %d): %x, %t, not %x, %t", l, id, got, ok, want, there)
	}
	if !sameList(l, was) {
		t.Fatalf("changed: %x was %x", l, was)
	}
}

// P15.1: what is there once, twice, and not at all.
func TestFind(t *testing.T) {
	l := []api.Ie{{Id: 7, Body: []byte{1}}, {Id: 9, Body: []byte{2}}, {Id: 7, Body: []byte{3}}, {Id: 0}, {Id: 255, Body: []byte{4}}, {Id: 255}}
	for _, x := range []struct {
		id   byte
		want api.Ie
		ok   bool
	}{{7, l[0], true}, {9, l[1], true}, {0, api.Ie{}, true}, {255, l[4], true}, {8, api.Ie{}, false}, {1, api.Ie{}, false}} {
		if got, ok := element.Find(l, x.id); !sameIe(got, x.want) || ok != x.ok {
			t.Errorf("Find(%d): %x, %t", x.id, got, ok)
		}
	}
	for id := range 256 {
		for _, none := range [][]api.Ie{nil, {}, l[:0]} {
			if got, ok := element.Find(none, byte(id)); !sameIe(got, api.Ie{}) || ok {
				t.Errorf("Find(%x, %d): %x, %t", none, id, got, ok)
			}
		}
		found(t, l, byte(id))
	}
}

// P15.1: in lists that can't be packed, too.
func TestFindInLongLists(t *testing.T) {
	l := many(300, 1)
	l[299] = api.Ie{Id: 43, Body: make([]byte, 300)}
	for id := range 256 {
		found(t, l, byte(id))
	}
	found(t, l[256:], 43)
	found(t, l[257:], 43)
	n := noise(4)
	for range 300 {
		l := n.list(n.below(30))
		for id := range 256 {
			found(t, l, byte(id))
		}
	}
}

// P15.2: a contract as a Body, written out.
func TestTrafficWrittenOut(t *testing.T) {
	for _, x := range []struct {
		c    api.Contract
		body []byte
	}{
		{api.Contract{Kind: api.Cbr1, Peak: 1}, []byte{1, 0, 0, 0, 0, 0, 1, 30: 0}},
		{api.Contract{Kind: api.Ubr2, Peak: 0x0123456789, Early: 0xfedcba9876}, []byte{7, 0, 1, 0x23, 0x45, 0x67, 0x89, 0, 0xfe, 0xdc, 0xba, 0x98, 0x76, 30: 0}},
		{
			api.Contract{Kind: api.Vbr3, Peak: 2, Early: 3, Whole: 0x0405060708, Burst: 1 << 40},
			[]byte{4, 0, 0, 0, 0, 0, 2, 0, 0, 0, 0, 0, 3, 0, 4, 5, 6, 7, 8, 1, 0, 0, 0, 0, 0, 30: 0},
		},
		{api.Contract{Kind: api.Abr, Peak: 9, Least: 0x0a0b0c0d0e}, []byte{5, 0, 0, 0, 0, 0, 9, 25: 0, 26: 0x0a, 27: 0x0b, 28: 0x0c, 29: 0x0d, 30: 0x0e}},
	} {
		want := api.Ie{Id: 0x59, Body: x.body}
		if got, e := element.Traffic(x.c); !sameIe(got, want) || e != api.OK {
			t.Errorf("Traffic(%+v): %x, %d", x.c, got, e)
		}
		if got, e := element.ReadTraffic(want); got != x.c || e != api.OK {
			t.Errorf("ReadTraffic(%x): %+v, %d", want, got, e)
		}
	}
}

// traffics holds a contract as an element against layer 6, and back, if each of its numbers has room there.
func traffics(t *testing.T, c api.Contract) {
	t.Helper()
	want := contract.Right(c)
	x, e := element.Traffic(c)
	if e != want {
		t.Fatalf("Traffic(%+v): %d, not %d", c, e, want)
	}
	if e != api.OK {
		if !sameIe(x, api.Ie{}) {
			t.Fatalf("Traffic(%+v): %x", c, x)
		}
	} else if !sameIe(x, api.Ie{Id: 0x59, Body: trafficOf(c)}) {
		t.Fatalf("Traffic(%+v): %x", c, x)
	}
	if c.Kind < 0 || c.Kind > 255 {
		return
	}
	for _, span := range []int{c.Peak, c.Early, c.Whole, c.Burst, c.Least} {
		if span < 0 || span >= 1<<48 {
			return
		}
	}
	readsTraffic(t, trafficOf(c), c)
}

// readsTraffic holds what a Body of 31 bytes tells: that contract, if it can be.
func readsTraffic(t *testing.T, body []byte, c api.Contract) {
	t.Helper()
	want := contract.Right(c)
	if want != api.OK {
		c = api.Contract{}
	}
	was := bytes.Clone(body)
	if got, e := element.ReadTraffic(api.Ie{Id: 0x59, Body: body}); got != c || e != want {
		t.Fatalf("ReadTraffic(%x): %+v, %d, not %+v, %d", body, got, e, c, want)
	}
	if !bytes.Equal(body, was) {
		t.Fatalf("changed: %x was %x", body, was)
	}
}

// edges are the ends of what spans may be and of what six bytes hold, the numbers next to them, and the ends of all numbers.
var edges = []int{math.MinInt, -long, -1, 0, 1, 255, 256, long - 1, long, long + 1, 1<<48 - 1, 1 << 48, 1<<48 + 1, math.MaxInt}

// sample is a contract of a kind that can be, with spans that leave room on both sides.
func sample(kind int) api.Contract {
	c := api.Contract{Kind: kind, Peak: 0x0203040506, Early: 0x0708090a0b}
	switch {
	case slices.Contains(vbr, kind):
		c.Whole, c.Burst = 0x0c0d0e0f10, 0x1112131415
	case kind == api.Abr:
		c.Least = 0x161718191a
	}
	return c
}

// spansOf are a contract's spans, in their order in package api.
func spansOf(c *api.Contract) []*int {
	return []*int{&c.Peak, &c.Early, &c.Whole, &c.Burst, &c.Least}
}

// P15.2, P15.3: each kind that can be, and each span of it at each edge, and at each two of them.
func TestTrafficAtEdges(t *testing.T) {
	for _, kind := range seven {
		c := sample(kind)
		if contract.Right(c) != api.OK {
			t.Fatalf("%+v", c)
		}
		traffics(t, c)
		for one := range 5 {
			for _, x := range edges {
				for other := range 5 {
					for _, y := range edges {
						c := sample(kind)
						*spansOf(&c)[one] = x
						*spansOf(&c)[other] = y
						traffics(t, c)
					}
				}
			}
		}
	}
}

// P15.2: by what a contract can't be, written out.
func TestTrafficThatCannotBe(t *testing.T) {
	for _, x := range []struct {
		c    api.Contract
		want api.Errno
	}{
		{api.Contract{}, api.ErrKind},
		{api.Contract{Peak: 1}, api.ErrKind},
		{api.Contract{Kind: 8, Peak: 1}, api.ErrKind},
		{api.Contract{Kind: 8, Peak: -1}, api.ErrKind},
		{api.Contract{Kind: 255, Peak: 1}, api.ErrKind},
		{api.Contract{Kind: 257, Peak: 1}, api.ErrKind},
		{api.Contract{Kind: -255, Peak: 1}, api.ErrKind},
		{api.Contract{Kind: 1<<32 + 1, Peak: 1}, api.ErrKind},
		{api.Contract{Kind: math.MinInt + 1, Peak: 1}, api.ErrKind},
		{api.Contract{Kind: api.Cbr1}, api.ErrRate},
		{api.Contract{Kind: api.Cbr1, Peak: long + 1}, api.ErrRate},
		{api.Contract{Kind: api.Cbr1, Peak: 1<<48 + 1}, api.ErrRate},
		{api.Contract{Kind: api.Cbr1, Peak: 1, Early: -1}, api.ErrRate},
		{api.Contract{Kind: api.Ubr1, Peak: 1, Whole: 1}, api.ErrRate},
		{api.Contract{Kind: api.Ubr2, Peak: 1, Burst: 1}, api.ErrRate},
		{api.Contract{Kind: api.Cbr1, Peak: 1, Least: 1}, api.ErrRate},
		{api.Contract{Kind: api.Vbr1, Peak: 2, Whole: 1}, api.ErrRate},
		{api.Contract{Kind: api.Vbr2, Peak: 2, Whole: 2, Burst: long + 1}, api.ErrRate},
		{api.Contract{Kind: api.Vbr3, Peak: 2, Whole: 2, Least: 2}, api.ErrRate},
		{api.Contract{Kind: api.Abr, Peak: 2, Least: 1}, api.ErrRate},
	} {
		if got, e := element.Traffic(x.c); !sameIe(got, api.Ie{}) || e != x.want {
			t.Errorf("Traffic(%+v): %x, %d, not %d", x.c, got, e, x.want)
		}
		traffics(t, x.c)
	}
}

// P15.2: each of a span's six bytes by itself, beside spans of 0 and of many bytes; those that are more than Longest, too.
func TestEachByteOfASpan(t *testing.T) {
	for _, kind := range seven {
		for span := range 5 {
			for i := range 6 {
				for b := range 256 {
					alone := api.Contract{Kind: kind, Peak: 1}
					if slices.Contains(vbr, kind) {
						alone.Whole = 1
					}
					*spansOf(&alone)[span] = b << (40 - 8*i)
					traffics(t, alone)

					body := trafficOf(sample(kind))
					at := 1 + 6*span + i
					c := sample(kind)
					*spansOf(&c)[span] += (b - int(body[at])) << (40 - 8*i)
					body[at] = byte(b)
					readsTraffic(t, body, c)
					traffics(t, c)
				}
			}
		}
	}
}

// P15.2: each Kind that one byte tells, with spans that can be of one of the seven.
func TestKindOfTraffic(t *testing.T) {
	for kind := range 256 {
		for _, like := range seven {
			c := sample(like)
			c.Kind = kind
			traffics(t, c)
			body := trafficOf(c)
			_, e := element.ReadTraffic(api.Ie{Id: 0x59, Body: body})
			if (e == api.ErrKind) != (kind < 1 || kind > 7) {
				t.Errorf("ReadTraffic(%x): %d", body, e)
			}
		}
	}
	for _, kind := range []int{math.MinInt, -256, -1, 256, 257, 263, 65537, 1<<32 + 4, math.MaxInt} {
		for _, like := range seven {
			c := sample(like)
			c.Kind = kind
			traffics(t, c)
		}
	}
}

// P15.2, P15.3: contracts of all sorts that can be.
func TestManyContracts(t *testing.T) {
	n := noise(5)
	for range 3000 {
		for _, kind := range seven {
			c := n.contract(kind)
			x, e := element.Traffic(c)
			if e != api.OK {
				t.Fatalf("Traffic(%+v): %d", c, e)
			}
			traffics(t, c)
			packs(t, []api.Ie{x})
			body := x.Body
			for range 1 + n.below(2) {
				body[n.below(31)] = byte(n.below(256))
			}
			if got, e := element.ReadTraffic(x); e == api.OK {
				if again, _ := element.Traffic(got); !sameIe(again, x) {
					t.Fatalf("Traffic(%+v): %x, not %x", got, again, x)
				}
			}
		}
	}
}

// P15.2: Bodies with other numbers of bytes, also of what wouldn't be OK else.
func TestHowLongTrafficIs(t *testing.T) {
	whole := append(trafficOf(sample(api.Vbr2)), make([]byte, 300)...)
	for n := range len(whole) {
		for _, kind := range []byte{0, byte(api.Vbr2), 8} {
			body := bytes.Clone(whole[:n])
			if n > 0 {
				body[0] = kind
			}
			got, e := element.ReadTraffic(api.Ie{Id: 0x59, Body: body})
			want := api.ErrForm
			switch {
			case n == 31 && kind == byte(api.Vbr2):
				want = api.OK
			case n == 31:
				want = api.ErrKind
			}
			if e != want || e != api.OK && got != (api.Contract{}) {
				t.Errorf("ReadTraffic of %d bytes, Kind %d: %+v, %d", n, kind, got, e)
			}
		}
	}
	if got, e := element.ReadTraffic(api.Ie{Id: 0x59}); got != (api.Contract{}) || e != api.ErrForm {
		t.Errorf("ReadTraffic of no Body: %+v, %d", got, e)
	}
}

// P15.2: a key as a Body, written out.
func TestKeyWrittenOut(t *testing.T) {
	for _, x := range []struct {
		k    api.Key
		body []byte
	}{
		{api.Key{}, []byte{0, 0, 0, 0, 0}},
		{api.Key{Port: 7, Vpi: 4095, Vci: 65535}, []byte{7, 0x0f, 0xff, 0xff, 0xff}},
		{api.Key{Port: 2, Vpi: 0x123, Vci: 0x4567}, []byte{2, 1, 0x23, 0x45, 0x67}},
		{api.Key{Port: 1, Vpi: 256, Vci: 1}, []byte{1, 1, 0, 0, 1}},
	} {
		want := api.Ie{Id: 0x5a, Body: x.body}
		if got, e := element.Key(x.k); !sameIe(got, want) || e != api.OK {
			t.Errorf("Key(%+v): %x, %d", x.k, got, e)
		}
		if got, e := element.ReadKey(want); got != x.k || e != api.OK {
			t.Errorf("ReadKey(%x): %+v, %d", want, got, e)
		}
	}
}

// keys holds a key as an element against layer 9's words, and back, if each of its numbers has room there.
func keys(t *testing.T, k api.Key) {
	t.Helper()
	x, e := element.Key(k)
	if keyCanBe(k) {
		if !sameIe(x, api.Ie{Id: 0x5a, Body: keyOf(k)}) || e != api.OK {
			t.Fatalf("Key(%+v): %x, %d", k, x, e)
		}
	} else if !sameIe(x, api.Ie{}) || e != api.ErrArg {
		t.Fatalf("Key(%+v): %x, %d", k, x, e)
	}
	if k.Port < 0 || k.Port > 255 || k.Vpi < 0 || k.Vpi > 65535 || k.Vci < 0 || k.Vci > 65535 {
		return
	}
	readsKey(t, keyOf(k), k)
}

// readsKey holds what a Body of five bytes tells: that key, if it can be.
func readsKey(t *testing.T, body []byte, k api.Key) {
	t.Helper()
	want := api.OK
	if !keyCanBe(k) {
		k, want = api.Key{}, api.ErrArg
	}
	was := bytes.Clone(body)
	if got, e := element.ReadKey(api.Ie{Id: 0x5a, Body: body}); got != k || e != want {
		t.Fatalf("ReadKey(%x): %+v, %d, not %+v, %d", body, got, e, k, want)
	}
	if !bytes.Equal(body, was) {
		t.Fatalf("changed: %x was %x", body, was)
	}
}

// P15.2, P15.3: Port, Vpi and Vci at their least and greatest, one beyond, below 0, and where fewer bytes would tell something else.
func TestKeyAtEdges(t *testing.T) {
	ends := []int{math.MinInt, -1, math.MaxInt}
	for _, port := range append(ends, 0, 1, 7, 8, 255, 256, 257) {
		for _, vpi := range append(ends, 0, 1, 255, 256, 4095, 4096, 65535, 65536, 65537) {
			for _, vci := range append(ends, 0, 1, 255, 256, 65534, 65535, 65536, 65537) {
				keys(t, api.Key{Port: port, Vpi: vpi, Vci: vci})
			}
		}
	}
}

// P15.2, P15.3: each number that a Body tells for one of the three, beside others.
func TestEachKey(t *testing.T) {
	for _, k := range []api.Key{{}, {Port: 7, Vpi: 4095, Vci: 65535}, {Port: 2, Vpi: 0x123, Vci: 0x4567}, {Port: 8}, {Vpi: 4096}} {
		for x := range 65536 {
			port, path, channel := k, k, k
			port.Port, path.Vpi, channel.Vci = x%256, x, x
			keys(t, path)
			keys(t, channel)
			if x < 256 {
				keys(t, port)
			}
		}
	}
	n := noise(6)
	for range 3000 {
		k := n.key()
		keys(t, k)
		x, _ := element.Key(k)
		packs(t, []api.Ie{x})
		for i := range 5 {
			body := keyOf(k)
			body[i] = byte(n.below(256))
			readsKey(t, body, api.Key{Port: int(body[0]), Vpi: 256*int(body[1]) + int(body[2]), Vci: 256*int(body[3]) + int(body[4])})
		}
	}
}

// P15.2: Bodies with other numbers of bytes, also of what can't be.
func TestHowLongKeysAre(t *testing.T) {
	for n := range 300 {
		for _, port := range []byte{1, 8} {
			body := bytes.Repeat([]byte{port}, n)
			want := api.ErrForm
			switch {
			case n == 5 && port == 1:
				want = api.OK
			case n == 5:
				want = api.ErrArg
			}
			got, e := element.ReadKey(api.Ie{Id: 0x5a, Body: body})
			if e != want || e != api.OK && got != (api.Key{}) {
				t.Errorf("ReadKey(%x): %+v, %d", body, got, e)
			}
		}
	}
	if got, e := element.ReadKey(api.Ie{Id: 0x5a}); got != (api.Key{}) || e != api.ErrForm {
		t.Errorf("ReadKey of no Body: %+v, %d", got, e)
	}
}

// P15.2, P15.3: causes within what may be and beyond it.
func TestCause(t *testing.T) {
	for code := range 128 {
		want := api.Ie{Id: 8, Body: []byte{0, byte(code)}}
		x, e := element.Cause(code)
		if !sameIe(x, want) || e != api.OK {
			t.Errorf("Cause(%d): %x, %d", code, x, e)
		}
		if got, e := element.ReadCause(x); got != code || e != api.OK {
			t.Errorf("ReadCause(%x): %d, %d", x, got, e)
		}
		packs(t, []api.Ie{x})
	}
	beyond := []int{math.MinInt, -256, -221, -128, -1, 128, 129, 163, 255, 256, 291, 65536, 1<<32 + 35, math.MaxInt}
	for _, code := range beyond {
		if x, e := element.Cause(code); !sameIe(x, api.Ie{}) || e != api.ErrArg {
			t.Errorf("Cause(%d): %x, %d", code, x, e)
		}
	}
}

// P15.2: each Body of two bytes.
func TestReadCause(t *testing.T) {
	for first := range 256 {
		for second := range 256 {
			body := []byte{byte(first), byte(second)}
			got, e := element.ReadCause(api.Ie{Id: 8, Body: body})
			if first == 0 && second < 128 {
				if got != second || e != api.OK {
					t.Errorf("ReadCause(%x): %d, %d", body, got, e)
				}
			} else if got != 0 || e != api.ErrForm {
				t.Errorf("ReadCause(%x): %d, %d", body, got, e)
			}
			if body[0] != byte(first) || body[1] != byte(second) {
				t.Errorf("changed: %x", body)
			}
		}
	}
}

// P15.2: Bodies with other numbers of bytes.
func TestHowLongCausesAre(t *testing.T) {
	for n := range 300 {
		if n == 2 {
			continue
		}
		for _, b := range []byte{0, 35, 255} {
			body := make([]byte, n)
			if n > 0 {
				body[n-1] = b
			}
			if got, e := element.ReadCause(api.Ie{Id: 8, Body: body}); got != 0 || e != api.ErrForm {
				t.Errorf("ReadCause(%x): %d, %d", body, got, e)
			}
		}
	}
	if got, e := element.ReadCause(api.Ie{Id: 8}); got != 0 || e != api.ErrForm {
		t.Errorf("ReadCause of no Body: %d, %d", got, e)
	}
}

// P15.2: each other Id, with Bodies that can be and that can't: it comes first.
func TestAnotherId(t *testing.T) {
	bodies := [][]byte{nil, {0}, {0, 35}, {1, 200}, {2, 1, 0x23, 0x45, 0x67}, {8, 0xff, 0xff, 0, 0}, make([]byte, 30), make([]byte, 31), make([]byte, 32), make([]byte, 201)}
	for _, kind := range seven {
		bodies = append(bodies, trafficOf(sample(kind)))
	}
	for id := range 256 {
		for _, body := range bodies {
			x := api.Ie{Id: byte(id), Body: body}
			if c, e := element.ReadTraffic(x); id != 0x59 && (c != (api.Contract{}) || e != api.ErrKind) {
				t.Errorf("ReadTraffic(%x): %+v, %d", x, c, e)
			}
			if k, e := element.ReadKey(x); id != 0x5a && (k != (api.Key{}) || e != api.ErrKind) {
				t.Errorf("ReadKey(%x): %+v, %d", x, k, e)
			}
			if code, e := element.ReadCause(x); id != 0x08 && (code != 0 || e != api.ErrKind) {
				t.Errorf("ReadCause(%x): %d, %d", x, code, e)
			}
		}
	}
}

// three are a traffic element, a key and a cause.
func three(t *testing.T, c api.Contract, k api.Key, code int) []api.Ie {
	t.Helper()
	x, e1 := element.Traffic(c)
	y, e2 := element.Key(k)
	z, e3 := element.Cause(code)
	if e1 != api.OK || e2 != api.OK || e3 != api.OK {
		t.Fatalf("%+v, %+v, %d: %d, %d, %d", c, k, code, e1, e2, e3)
	}
	return []api.Ie{x, y, z}
}

// readAll holds that bytes carry the three.
func readAll(t *testing.T, b []byte, c api.Contract, k api.Key, code int) {
	t.Helper()
	l, e := element.Unpack(b)
	if e != api.OK {
		t.Fatalf("Unpack(%x): %d", b, e)
	}
	x, _ := element.Find(l, element.TrafficId)
	if got, e := element.ReadTraffic(x); got != c || e != api.OK {
		t.Fatalf("ReadTraffic(%x): %+v, %d", x, got, e)
	}
	x, _ = element.Find(l, element.KeyId)
	if got, e := element.ReadKey(x); got != k || e != api.OK {
		t.Fatalf("ReadKey(%x): %+v, %d", x, got, e)
	}
	x, _ = element.Find(l, element.CauseId)
	if got, e := element.ReadCause(x); got != code || e != api.OK {
		t.Fatalf("ReadCause(%x): %d, %d", x, got, e)
	}
}

// P15.3: the three side by side, among others, packed, unpacked, found and read.
func TestTheThreeTogether(t *testing.T) {
	n := noise(7)
	for range 2000 {
		c, k, code := n.contract(seven[n.below(7)]), n.key(), n.below(128)
		l := three(t, c, k, code)
		for range n.below(13) {
			other := api.Ie{Id: byte(0x60 + n.below(100)), Body: n.bytes(n.below(201))}
			l = slices.Insert(l, n.below(len(l)+1), other)
		}
		packs(t, l)
		b, _ := element.Pack(l)
		readAll(t, b, c, k, code)
	}
}

// spoil turns over each bit of a list's Bodies, and writes behind them, as far as there is room.
func spoil(l []api.Ie) {
	for i := range l {
		room := l[i].Body[:cap(l[i].Body)]
		for j := range room {
			room[j] ^= 0xff
		}
		l[i].Body = append(l[i].Body, 0xee)
		l[i].Id ^= 0xff
	}
}

// R3: what is packed is memory of its own, what is handed in stays as it is, and so do the bytes behind it.
func TestPackedIsItsOwn(t *testing.T) {
	room := bytes.Repeat([]byte{3}, 40)
	l := make([]api.Ie, 2, 6)
	l[0], l[1] = api.Ie{Id: 1, Body: room[:10]}, api.Ie{Id: 2, Body: room[20:25]}
	want := laid(l)
	b, _ := element.Pack(l)
	other, _ := element.Pack(l)
	if !bytes.Equal(room, bytes.Repeat([]byte{3}, 40)) || !sameList(l[2:6], make([]api.Ie, 4)) {
		t.Errorf("changed: %x, %x", room, l[:6])
	}
	clear(room)
	if !bytes.Equal(b, want) || !bytes.Equal(other, want) {
		t.Errorf("changed with the Bodies: %x, %x", b, other)
	}
	b = append(b, 9)
	clear(b)
	if !bytes.Equal(other, want) {
		t.Errorf("changed with other bytes: %x", other)
	}
}

// R3: each Body that is unpacked is memory of its own, apart from the bytes and from the others.
func TestUnpackedIsItsOwn(t *testing.T) {
	n := noise(8)
	for _, number := range []int{1, 2, 3, 16} {
		for range 30 {
			l := n.list(number)
			room := append(laid(l), bytes.Repeat([]byte{4}, 50)...)
			was := bytes.Clone(room)
			b := room[:len(room)-50]
			got, _ := element.Unpack(b)
			again, _ := element.Unpack(b)
			for i := range got {
				spoil(got[i : i+1])
				if !sameList(got[i+1:], l[i+1:]) {
					t.Fatalf("changed with another Body: %x was %x", got, l)
				}
			}
			if !bytes.Equal(room, was) {
				t.Fatalf("changed with what was unpacked: %x was %x", room, was)
			}
			clear(room)
			if !sameList(again, l) {
				t.Fatalf("changed with the bytes: %x was %x", again, l)
			}
		}
	}
}

// R3: each of the three is memory of its own, each time.
func TestTheThreeAreTheirOwn(t *testing.T) {
	c, k := sample(api.Vbr3), api.Key{Port: 2, Vpi: 0x123, Vci: 0x4567}
	l := three(t, c, k, 35)
	again, was := three(t, c, k, 35), own(l)
	spoil(l)
	if !sameList(again, was) || !sameList(three(t, c, k, 35), was) {
		t.Errorf("changed: %x was %x", again, was)
	}
}

// R5: answers are the same again, whatever was asked meanwhile.
func TestAskedAgain(t *testing.T) {
	c, k := sample(api.Abr), api.Key{Port: 7, Vpi: 1, Vci: 32}
	l := three(t, c, k, 127)
	b := laid(l)
	for range 20 {
		tooLong(t, many(17, 1))
		refused(t, b[:len(b)-1], api.ErrShort)
		refused(t, append(bytes.Clone(b), 1, 0, 0, 0), api.ErrForm)
		traffics(t, api.Contract{Kind: 9})
		keys(t, api.Key{Port: -1})
		packs(t, l)
		unpacks(t, b)
		readAll(t, b, c, k, 127)
		if !sameList(three(t, c, k, 127), l) {
			t.Fatalf("changed: %x", l)
		}
	}
}
