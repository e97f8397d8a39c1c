package header_test

import (
	"bytes"
	"fmt"
	"math"
	"strconv"
	"testing"

	"trunkline/api"
	"trunkline/header"
)

// field is one of a header's numbers: how many bits it has at the user side and between switches, and where it stands.
type field struct {
	name string
	user int
	nni  int
	in   func(h *api.Header) *int
}

func fields() []field {
	return []field{
		{"Gfc", 4, 0, func(h *api.Header) *int { return &h.Gfc }},
		{"Vpi", 8, 12, func(h *api.Header) *int { return &h.Vpi }},
		{"Vci", 16, 16, func(h *api.Header) *int { return &h.Vci }},
		{"Pti", 3, 3, func(h *api.Header) *int { return &h.Pti }},
		{"Clp", 1, 1, func(h *api.Header) *int { return &h.Clp }},
	}
}

func (f field) bits(nni bool) int {
	if nni {
		return f.nni
	}
	return f.user
}

// greatest is the greatest number that the field's bits hold.
func (f field) greatest(nni bool) int {
	return 1<<f.bits(nni) - 1
}

var sides = []bool{false, true}

// noise makes numbers by a fixed rule, so that every run has the same ones.
type noise uint64

func (n *noise) next() uint64 {
	*n = *n*6364136223846793005 + 1442695040888963407
	return uint64(*n) >> 32
}

// full is the header with each number at its greatest.
func full(nni bool) api.Header {
	var h api.Header
	for _, f := range fields() {
		*f.in(&h) = f.greatest(nni)
	}
	return h
}

// rightHeaders are headers that can be: each number at 0, 1, about its half, and its greatest, with all others at 0 and at their greatest; and some at random.
func rightHeaders(nni bool) []api.Header {
	l := []api.Header{{}, full(nni)}
	for _, f := range fields() {
		top := f.greatest(nni)
		for _, x := range []int{0, 1, top / 2, top/2 + 1, top - 1, top} {
			if x < 0 || x > top {
				continue
			}
			for _, h := range []api.Header{{}, full(nni)} {
				*f.in(&h) = x
				l = append(l, h)
			}
		}
	}
	n := noise(1)
	for range 500 {
		var h api.Header
		for _, f := range fields() {
			*f.in(&h) = int(n.next() & uint64(f.greatest(nni)))
		}
		l = append(l, h)
	}
	return l
}

// wrongHeaders are headers of which one number can't be: below 0, or with a bit too many, by little and by much.
func wrongHeaders(nni bool) []api.Header {
	var l []api.Header
	for _, f := range fields() {
		over := f.greatest(nni) + 1
		for _, x := range []int{-1, -2, -over, -over - 1, math.MinInt, math.MinInt + 1, math.MinInt32, over, over + 1, 2 * over, 2*over + 1, 1 << 31, 1 << 32, 1<<32 + 1, math.MaxInt} {
			for _, h := range []api.Header{{}, full(nni)} {
				*f.in(&h) = x
				l = append(l, h)
			}
		}
	}
	return l
}

// written is the header as a row of bits in text, cut into bytes: none of the program's shifting.
func written(t *testing.T, h api.Header, nni bool) []byte {
	t.Helper()
	row := ""
	for _, f := range fields() {
		if many := f.bits(nni); many > 0 {
			row += fmt.Sprintf("%0*b", many, *f.in(&h))
		}
	}
	if len(row) != 32 {
		t.Fatalf("%+v: %d bits", h, len(row))
	}
	var b []byte
	for ; row != ""; row = row[8:] {
		x, err := strconv.ParseUint(row[:8], 2, 8)
		if err != nil {
			t.Fatal(err)
		}
		b = append(b, byte(x))
	}
	return b
}

// P2.1: the chapter's example, and headers whose bytes are written out by hand.
func TestKnownHeaders(t *testing.T) {
	for _, x := range []struct {
		h    api.Header
		nni  bool
		want []byte
	}{
		{api.Header{Vpi: 1, Vci: 5}, false, []byte{0x00, 0x10, 0x00, 0x50}},
		{api.Header{Vpi: 1, Vci: 5}, true, []byte{0x00, 0x10, 0x00, 0x50}},
		{api.Header{}, false, []byte{0, 0, 0, 0}},
		{api.Header{}, true, []byte{0, 0, 0, 0}},
		{api.Header{Clp: 1}, false, []byte{0, 0, 0, 1}},
		{api.Header{Pti: 7}, false, []byte{0, 0, 0, 0x0e}},
		{api.Header{Vci: 0xffff}, false, []byte{0, 0x0f, 0xff, 0xf0}},
		{api.Header{Vpi: 0xff}, false, []byte{0x0f, 0xf0, 0, 0}},
		{api.Header{Gfc: 0xf}, false, []byte{0xf0, 0, 0, 0}},
		{api.Header{Vpi: 0xfff}, true, []byte{0xff, 0xf0, 0, 0}},
		{api.Header{Vpi: 0x100}, true, []byte{0x10, 0, 0, 0}},
		{api.Header{Gfc: 0xf, Vpi: 0xff, Vci: 0xffff, Pti: 7, Clp: 1}, false, []byte{0xff, 0xff, 0xff, 0xff}},
		{api.Header{Vpi: 0xfff, Vci: 0xffff, Pti: 7, Clp: 1}, true, []byte{0xff, 0xff, 0xff, 0xff}},
		{api.Header{Gfc: 1, Vpi: 0x23, Vci: 0x4567, Pti: 4, Clp: 0}, false, []byte{0x12, 0x34, 0x56, 0x78}},
		{api.Header{Vpi: 0x123, Vci: 0x4567, Pti: 4, Clp: 0}, true, []byte{0x12, 0x34, 0x56, 0x78}},
	} {
		if !header.Right(x.h, x.nni) {
			t.Errorf("Right(%+v, %t): false", x.h, x.nni)
		}
		if b, e := header.Pack(x.h, x.nni); !bytes.Equal(b, x.want) || e != api.OK {
			t.Errorf("Pack(%+v, %t): %x, %d; not %x", x.h, x.nni, b, e, x.want)
		}
		if h, e := header.Unpack(x.want, x.nni); h != x.h || e != api.OK {
			t.Errorf("Unpack(%x, %t): %+v, %d; not %+v", x.want, x.nni, h, e, x.h)
		}
	}
}

// P2.1: headers that can be, each number at 0 and at its greatest among them, and their bytes.
func TestRightHeaders(t *testing.T) {
	for _, nni := range sides {
		for _, h := range rightHeaders(nni) {
			if !header.Right(h, nni) {
				t.Errorf("Right(%+v, %t): false", h, nni)
			}
			want := written(t, h, nni)
			if b, e := header.Pack(h, nni); !bytes.Equal(b, want) || e != api.OK {
				t.Errorf("Pack(%+v, %t): %x, %d; not %x", h, nni, b, e, want)
			}
		}
	}
}

// P2.1, R2: headers that can't be, and no byte beside the error.
func TestWrongHeaders(t *testing.T) {
	for _, nni := range sides {
		for _, h := range wrongHeaders(nni) {
			if header.Right(h, nni) {
				t.Errorf("Right(%+v, %t): true", h, nni)
			}
			if b, e := header.Pack(h, nni); len(b) != 0 || e != api.ErrArg {
				t.Errorf("Pack(%+v, %t): %x, %d", h, nni, b, e)
			}
		}
	}
}

// P2.1: several numbers that can't be, such that one might hide another.
func TestSeveralWrongNumbers(t *testing.T) {
	for _, nni := range sides {
		for _, h := range []api.Header{
			{Gfc: -1, Vpi: -1, Vci: -1, Pti: -1, Clp: -1},
			{Gfc: 16, Vpi: 4096, Vci: 65536, Pti: 8, Clp: 2},
			{Vpi: -1, Vci: 65536},
			{Pti: -1, Clp: 2},
			{Gfc: -1, Clp: -1},
		} {
			if b, e := header.Pack(h, nni); len(b) != 0 || e != api.ErrArg || header.Right(h, nni) {
				t.Errorf("Pack(%+v, %t): %x, %d; Right %t", h, nni, b, e, header.Right(h, nni))
			}
		}
	}
}

// P2.1: the sides differ: flow control is the user's alone, and between switches a path has four bits more.
func TestSidesDiffer(t *testing.T) {
	for gfc := range 17 {
		h := api.Header{Gfc: gfc}
		if got := header.Right(h, false); got != (gfc < 16) {
			t.Errorf("Right with Gfc %d at the user side: %t", gfc, got)
		}
		if got := header.Right(h, true); got != (gfc == 0) {
			t.Errorf("Right with Gfc %d between switches: %t", gfc, got)
		}
	}
	for vpi := range 5000 {
		h := api.Header{Vpi: vpi}
		if got := header.Right(h, false); got != (vpi < 256) {
			t.Errorf("Right with Vpi %d at the user side: %t", vpi, got)
		}
		if got := header.Right(h, true); got != (vpi < 4096) {
			t.Errorf("Right with Vpi %d between switches: %t", vpi, got)
		}
	}
}

// P2.1, R2, R4: fewer than four bytes, nil among them, and more.
func TestUnpackOfWrongLength(t *testing.T) {
	for _, nni := range sides {
		for many := range 60 {
			want := api.OK
			if many < 4 {
				want = api.ErrShort
			} else if many > 4 {
				want = api.ErrTail
			}
			h, e := header.Unpack(bytes.Repeat([]byte{0xff}, many), nni)
			if e != want || e != api.OK && h != (api.Header{}) {
				t.Errorf("Unpack of %d bytes, %t: %+v, %d; not %d", many, nni, h, e, want)
			}
		}
		if h, e := header.Unpack(nil, nni); h != (api.Header{}) || e != api.ErrShort {
			t.Errorf("Unpack(nil, %t): %+v, %d", nni, h, e)
		}
	}
}

// P2.2: the kinds' numbers, as the chapter counts them.
func TestKindsAreCounted(t *testing.T) {
	for i, k := range []int{header.User, header.Idle, header.Unassigned, header.PathSegment, header.PathEnd, header.Segment, header.End, header.Rm, header.PathRm, header.Reserved} {
		if k != i+1 {
			t.Errorf("kind %d is %d", i+1, k)
		}
	}
}

// P2.2: each kind that the promise names, by hand, and who comes first where two would do.
func TestKindsByHand(t *testing.T) {
	for _, x := range []struct {
		want int
		of   []api.Header
	}{
		{header.Idle, []api.Header{{Clp: 1}, {Gfc: 15, Clp: 1}}},
		{header.Unassigned, []api.Header{{}, {Pti: 1}, {Pti: 4}, {Pti: 5}, {Pti: 6}, {Pti: 7}, {Gfc: 9}}},
		{header.Reserved, []api.Header{
			{Pti: 1, Clp: 1}, {Pti: 4, Clp: 1}, {Pti: 5, Clp: 1}, {Pti: 6, Clp: 1}, {Pti: 7, Clp: 1},
			{Vpi: 1}, {Vpi: 1, Clp: 1}, {Vpi: 4095, Pti: 4}, {Vpi: 1, Pti: 5}, {Vpi: 1, Pti: 6, Clp: 1},
			{Vci: 1, Pti: 7}, {Vci: 6, Pti: 7}, {Vpi: 8, Vci: 65535, Pti: 7, Clp: 1},
		}},
		{header.PathSegment, []api.Header{{Vci: 3}, {Vci: 3, Clp: 1}, {Vci: 3, Pti: 4}, {Vci: 3, Pti: 5}, {Vci: 3, Pti: 6}, {Vci: 3, Pti: 7}, {Vpi: 7, Vci: 3}}},
		{header.PathEnd, []api.Header{{Vci: 4}, {Vci: 4, Clp: 1}, {Vci: 4, Pti: 4}, {Vci: 4, Pti: 5}, {Vci: 4, Pti: 6}, {Vci: 4, Pti: 7}, {Vpi: 7, Vci: 4}}},
		{header.PathRm, []api.Header{{Vci: 6, Pti: 6}, {Vpi: 255, Vci: 6, Pti: 6, Clp: 1}}},
		{header.Segment, []api.Header{{Vci: 1, Pti: 4}, {Vci: 6, Pti: 4}, {Vpi: 3, Vci: 40, Pti: 4, Clp: 1}}},
		{header.End, []api.Header{{Vci: 1, Pti: 5}, {Vci: 6, Pti: 5}, {Vpi: 3, Vci: 40, Pti: 5, Clp: 1}}},
		{header.Rm, []api.Header{{Vci: 1, Pti: 6}, {Vci: 5, Pti: 6}, {Vci: 7, Pti: 6}, {Vpi: 6, Vci: 40, Pti: 6, Clp: 1}}},
		{header.User, []api.Header{{Vci: 1}, {Vci: 2}, {Vci: 5}, {Vci: 6}, {Vci: 6, Pti: 3}, {Vpi: 3, Vci: 32, Pti: 1}, {Vpi: 4, Vci: 65535, Pti: 2, Clp: 1}}},
	} {
		for _, h := range x.of {
			if k := header.Kind(h); k != x.want {
				t.Errorf("Kind(%+v): %d, not %d", h, k, x.want)
			}
		}
	}
}

// kindByRules goes through the promise's sentences one by one, and answers at the first that holds.
func kindByRules(h api.Header) int {
	none := h.Vpi == 0 && h.Vci == 0
	for _, rule := range []struct {
		holds bool
		kind  int
	}{
		{none && h.Pti == 0 && h.Clp == 1, header.Idle},
		{none && h.Clp == 0, header.Unassigned},
		{none, header.Reserved},
		{h.Vci == 0, header.Reserved},
		{h.Vci == 3, header.PathSegment},
		{h.Vci == 4, header.PathEnd},
		{h.Vci == 6 && h.Pti == 6, header.PathRm},
		{h.Pti == 4, header.Segment},
		{h.Pti == 5, header.End},
		{h.Pti == 6, header.Rm},
		{h.Pti == 7, header.Reserved},
	} {
		if rule.holds {
			return rule.kind
		}
	}
	return header.User
}

// P2.2, R1: every type and loss priority on channels about those that are named; and numbers that no header can have.
func TestKindsByRules(t *testing.T) {
	strange := []int{math.MinInt, -65536, -1, 0, 1, 2, 3, 4, 5, 6, 7, 8, 9, 256 + 3, 65536, 65536 + 3, math.MaxInt}
	for _, vpi := range []int{math.MinInt, -1, 0, 1, 3, 4, 6, 255, 256, 4095, 4096, math.MaxInt} {
		for _, vci := range append(strange, 16, 17, 31, 32, 65535) {
			for _, pti := range strange {
				for _, clp := range []int{math.MinInt, -1, 0, 1, 2, 3, math.MaxInt} {
					for _, gfc := range []int{-1, 0, 1, 15} {
						h := api.Header{Gfc: gfc, Vpi: vpi, Vci: vci, Pti: pti, Clp: clp}
						if got, want := header.Kind(h), kindByRules(h); got != want {
							t.Fatalf("Kind(%+v): %d, not %d", h, got, want)
						}
					}
				}
			}
		}
	}
}

// P2.3: what was packed is unpacked.
func TestPackedIsUnpacked(t *testing.T) {
	for _, nni := range sides {
		for _, h := range rightHeaders(nni) {
			b, e := header.Pack(h, nni)
			if e != api.OK {
				t.Fatalf("Pack(%+v, %t): %d", h, nni, e)
			}
			if got, e := header.Unpack(b, nni); got != h || e != api.OK {
				t.Errorf("Unpack(%x, %t): %+v, %d; not %+v", b, nni, got, e, h)
			}
		}
	}
}

// fours are four bytes each: every single bit, every pair of bits, their opposites, and some at random.
func fours() [][]byte {
	var l [][]byte
	add := func(x uint32) {
		l = append(l, []byte{byte(x >> 24), byte(x >> 16), byte(x >> 8), byte(x)})
	}
	for i := range 32 {
		for j := range i + 1 {
			add(1<<i | 1<<j)
			add(^uint32(1<<i | 1<<j))
		}
	}
	add(0)
	add(math.MaxUint32)
	n := noise(2)
	for range 5000 {
		add(uint32(n.next()))
	}
	return l
}

// P2.3: any four bytes are a header that can be, and are packed to what they were.
func TestUnpackedIsPacked(t *testing.T) {
	for _, nni := range sides {
		for _, b := range fours() {
			h, e := header.Unpack(b, nni)
			if e != api.OK || !header.Right(h, nni) {
				t.Fatalf("Unpack(%x, %t): %+v, %d; Right %t", b, nni, h, e, header.Right(h, nni))
			}
			if got, e := header.Pack(h, nni); !bytes.Equal(got, b) || e != api.OK {
				t.Fatalf("Pack(%+v, %t): %x, %d; not %x", h, nni, got, e, b)
			}
		}
	}
}

// R3, R5: bytes that are handed in stay as they are, answers are memory of their own, and none hangs on what was called ahead of it.
func TestRules(t *testing.T) {
	for _, nni := range sides {
		for _, b := range fours() {
			was := bytes.Clone(b)
			h, _ := header.Unpack(b, nni)
			if !bytes.Equal(b, was) {
				t.Fatalf("Unpack changed %x to %x", was, b)
			}
			one, _ := header.Pack(h, nni)
			clear(b)
			clear(one)
			header.Pack(api.Header{Vpi: -1}, !nni)
			header.Unpack([]byte{0xff, 0xff, 0xff, 0xff}, !nni)
			if other, e := header.Pack(h, nni); !bytes.Equal(other, was) || e != api.OK {
				t.Fatalf("Pack(%+v, %t): %x, %d; not %x", h, nni, other, e, was)
			}
		}
	}
}
