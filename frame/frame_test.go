package frame_test

import (
	"bytes"
	"hash/crc32"
	"math"
	"math/bits"
	"slices"
	"testing"

	"trunkline/api"
	"trunkline/frame"
)

// lengths are those at which something changes: what a text can be, and how many parts its frame has; and some between.
var lengths = []int{1, 2, 39, 40, 41, 47, 48, 49, 87, 88, 89, 96, 100, 136, 137, 255, 256, 257, 511, 512, 999, api.MaxPdu}

// noise makes texts by a fixed rule, so that every run has the same ones.
type noise uint64

func (n *noise) next() uint64 {
	*n = *n*6364136223846793005 + 1442695040888963407
	return uint64(*n) >> 32
}

func (n *noise) text(many int) []byte {
	b := make([]byte, many)
	for i := range b {
		b[i] = byte(n.next())
	}
	return b
}

// texts are some of one length: all 0, all 1, and others.
func texts(many int) [][]byte {
	n := noise(many)
	return [][]byte{make([]byte, many), bytes.Repeat([]byte{0xff}, many), n.text(many), n.text(many)}
}

// checked is bytes of their own with the check behind them: that of the library, which takes each byte's lowest bit first, and so is turned about.
func checked(b []byte) []byte {
	turned := make([]byte, len(b))
	for i, x := range b {
		turned[i] = bits.Reverse8(x)
	}
	check := bits.Reverse32(crc32.ChecksumIEEE(turned))
	return append(bytes.Clone(b), byte(check>>24), byte(check>>16), byte(check>>8), byte(check))
}

// laid is a frame by the chapter's words, of a text that is too long for one, too: bytes 0 are put behind it one by one, till they are enough.
func laid(text []byte, mark byte) []byte {
	b := bytes.Clone(text)
	for (len(b)+8)%48 != 0 {
		b = append(b, 0)
	}
	return checked(append(b, mark, 0, byte(len(text)>>8), byte(len(text))))
}

// changed is a frame of its own in which the byte at a place, counted from the end if it is below 0, is another one, with the check made right again.
func changed(b []byte, place int, x byte) []byte {
	b = bytes.Clone(b)
	if place < 0 {
		place += len(b)
	}
	b[place] = x
	return checked(b[:len(b)-4])
}

// numbered is a frame of its own whose number is that, with the check made right again.
func numbered(b []byte, number int) []byte {
	return changed(changed(b, -6, byte(number>>8)), -5, byte(number))
}

// turned is bytes of their own in which the bits of a pattern, laid from a bit on, are turned over, its lowest bit first; and whether all of them are within the bytes.
func turned(b []byte, from int, pattern uint32) ([]byte, bool) {
	b = bytes.Clone(b)
	for i := range 32 {
		if pattern>>i&1 == 0 {
			continue
		}
		if (from+i)/8 >= len(b) {
			return nil, false
		}
		b[(from+i)/8] ^= 0x80 >> ((from + i) % 8)
	}
	return b, true
}

// packs asks for a frame, and holds it, and what was handed in, against what they should be.
func packs(t *testing.T, text []byte, mark byte, want []byte, e api.Errno) {
	t.Helper()
	was := bytes.Clone(text)
	if got, is := frame.Pack(text, mark); !bytes.Equal(got, want) || is != e {
		t.Errorf("Pack of %d bytes %.20x, mark %d: %d bytes %x, %d, not %d bytes %x, %d", len(text), text, mark, len(got), got, is, len(want), want, e)
	}
	if !bytes.Equal(text, was) {
		t.Errorf("Pack changed %x to %x", was, text)
	}
}

// unpacks asks for a text and a mark in the same way.
func unpacks(t *testing.T, what any, b, want []byte, mark byte, e api.Errno) {
	t.Helper()
	was := bytes.Clone(b)
	if got, m, is := frame.Unpack(b); !bytes.Equal(got, want) || m != mark || is != e {
		t.Errorf("%v: Unpack of %d bytes %.60x: %d bytes %.20x, %d, %d, not %d bytes, %d, %d", what, len(b), b, len(got), got, m, is, len(want), mark, e)
	}
	if !bytes.Equal(b, was) {
		t.Errorf("%v: Unpack changed %x to %x", what, was, b)
	}
}

// refused asks for a text that there isn't.
func refused(t *testing.T, what any, b []byte, e api.Errno) {
	t.Helper()
	unpacks(t, what, b, nil, 0, e)
}

// part is what Cells tells at once.
type part struct {
	bytes [48]byte
	last  bool
}

// parts are those of some bytes, by the chapter's words.
func parts(b []byte) []part {
	var l []part
	for i := range len(b) / 48 {
		l = append(l, part{[48]byte(b[48*i : 48*i+48]), 48*i+48 == len(b)})
	}
	return l
}

// told is what an iterator tells, up to so many.
func told(all func(func([48]byte, bool) bool), most int) []part {
	var l []part
	for p, last := range all {
		l = append(l, part{p, last})
		if len(l) == most {
			break
		}
	}
	return l
}

// P10.1, P10.3: the chapter's example.
func TestExample(t *testing.T) {
	for n, want := range map[int]int{40: 1, 41: 2} {
		b, e := frame.Pack(make([]byte, n), 0)
		if got := told(frame.Cells(b), 0); e != api.OK || len(b) != 48*want || len(got) != want || frame.Many(n) != want {
			t.Errorf("a text of %d bytes: %d, %d bytes, %d parts, %d", n, e, len(b), len(got), frame.Many(n))
		}
	}
}

// P10.1: frames that are written out, with checks of theirs that are known elsewhere.
func TestPackWrittenOut(t *testing.T) {
	counted := make([]byte, 40)
	for i := range counted {
		counted[i] = byte(i + 1)
	}
	for _, x := range []struct {
		text  []byte
		check []byte
	}{
		{make([]byte, 40), []byte{0x86, 0x4d, 0x7f, 0x99}},
		{bytes.Repeat([]byte{0xff}, 40), []byte{0xc5, 0x5e, 0x45, 0x7a}},
		{counted, []byte{0xbf, 0x67, 0x1e, 0xd0}},
	} {
		want := append(append(bytes.Clone(x.text), 0, 0, 0, 40), x.check...)
		packs(t, x.text, 0, want, api.OK)
		unpacks(t, "written out", want, x.text, 0, api.OK)
	}
}

// P10.1: where all of it lies: a text's bytes first, then as few bytes 0 as must be, and the trailer at the end.
func TestPackPlaces(t *testing.T) {
	for _, n := range lengths {
		text := bytes.Repeat([]byte{0xee}, n)
		b, e := frame.Pack(text, 0xa5)
		if e != api.OK || len(b)%48 != 0 || len(b) < n+8 || len(b) >= n+8+48 {
			t.Fatalf("Pack of %d bytes: %d bytes, %d", n, len(b), e)
		}
		trailer := b[len(b)-8:]
		if !bytes.Equal(b[:n], text) || bytes.Count(b[n:len(b)-8], []byte{0}) != len(b)-8-n {
			t.Errorf("a text of %d bytes, and what is behind it: %x", n, b)
		}
		if trailer[0] != 0xa5 || trailer[1] != 0 || int(trailer[2])<<8|int(trailer[3]) != n || !bytes.Equal(checked(b[:len(b)-4]), b) {
			t.Errorf("the trailer of a text of %d bytes: %x", n, trailer)
		}
	}
}

// P10.1, P10.4: texts of each length, and of all sorts, with marks at both ends and between, are frames, and are unpacked.
func TestEachLength(t *testing.T) {
	for n := 1; n <= api.MaxPdu; n++ {
		mark := byte(n * 7)
		text := texts(n)[2]
		packs(t, text, mark, laid(text, mark), api.OK)
		unpacks(t, n, laid(text, mark), text, mark, api.OK)
	}
	for _, n := range lengths {
		for _, text := range texts(n) {
			for _, mark := range []byte{0, 1, 127, 128, 254, 255} {
				packs(t, text, mark, laid(text, mark), api.OK)
				b, _ := frame.Pack(text, mark)
				unpacks(t, n, b, text, mark, api.OK)
			}
		}
	}
}

// P10.1, P10.4: each mark.
func TestEachMark(t *testing.T) {
	for _, n := range []int{1, 40, 41, 100} {
		text := texts(n)[3]
		for mark := range 256 {
			packs(t, text, byte(mark), laid(text, byte(mark)), api.OK)
			b, _ := frame.Pack(text, byte(mark))
			unpacks(t, n, b, text, byte(mark), api.OK)
		}
	}
}

// P10.1, R2: a text of no byte, and one of more than there may be; those too of which two bytes can't tell the number.
func TestPackOfWrongTexts(t *testing.T) {
	for _, mark := range []byte{0, 9, 255} {
		packs(t, nil, mark, nil, api.ErrArg)
		packs(t, []byte{}, mark, nil, api.ErrArg)
		for _, n := range []int{1, 2, 40, 47, 48, 100, 1000, 64534, 64535, 64536, 64537, 64576, 70000} {
			packs(t, make([]byte, api.MaxPdu+n), mark, nil, api.ErrLong)
		}
		packs(t, make([]byte, api.MaxPdu), mark, laid(make([]byte, api.MaxPdu), mark), api.OK)
	}
}

// P10.2: bytes that are none, or not a multiple of 48, are of no form, whether their check is right or not.
func TestUnpackOfLengths(t *testing.T) {
	refused(t, "nil", nil, api.ErrForm)
	refused(t, "none", []byte{}, api.ErrForm)
	long := laid(bytes.Repeat([]byte{7}, 200), 3)
	for n := range len(long) {
		want := api.ErrForm
		if n > 0 && n%48 == 0 {
			want = api.ErrSum
		}
		refused(t, "cut off", long[:n], want)
		refused(t, "cut off ahead", long[len(long)-n:], want)
		if n >= 4 && n%48 != 0 {
			refused(t, "cut off, with a right check", checked(long[:n-4]), api.ErrForm)
		}
		if n > 0 && n < 48 {
			refused(t, "with some more behind", append(bytes.Clone(long), long[:n]...), api.ErrForm)
			refused(t, "with some more ahead", append(bytes.Clone(long[:n]), long...), api.ErrForm)
		}
	}
	for _, n := range []int{1, 47, 49, 95, 97} {
		refused(t, "zeros", make([]byte, n), api.ErrForm)
	}
}

// P10.2: a check that is wrong in any way: each of its bits, all that one of its bytes can be, and checks of other bytes.
func TestUnpackOfWrongChecks(t *testing.T) {
	for _, n := range []int{1, 40, 41, 100} {
		text := texts(n)[2]
		b := laid(text, 5)
		for place := len(b) - 4; place < len(b); place++ {
			for x := range 256 {
				c := bytes.Clone(b)
				c[place] = byte(x)
				if c[place] == b[place] {
					unpacks(t, "as it was", c, text, 5, api.OK)
				} else {
					refused(t, "one byte of the check", c, api.ErrSum)
				}
			}
		}
		ahead, check := b[:len(b)-4], b[len(b)-4:]
		other := laid(text, 6)
		for _, x := range [][]byte{other[len(other)-4:], {0, 0, 0, 0}, {255, 255, 255, 255}, {check[3], check[2], check[1], check[0]}, {^check[0], ^check[1], ^check[2], ^check[3]}} {
			refused(t, "another check", append(bytes.Clone(ahead), x...), api.ErrSum)
		}
	}
	refused(t, "zeros", make([]byte, 48), api.ErrSum)
	refused(t, "zeros", make([]byte, 96), api.ErrSum)
	refused(t, "ones", bytes.Repeat([]byte{255}, 48), api.ErrSum)
}

// P10.2: all that the byte behind the mark can be.
func TestUnpackOfByteBehindMark(t *testing.T) {
	for _, n := range []int{1, 40, 41, api.MaxPdu} {
		text := texts(n)[3]
		b := laid(text, 200)
		unpacks(t, "0", changed(b, -7, 0), text, 200, api.OK)
		for x := 1; x < 256; x++ {
			refused(t, x, changed(b, -7, byte(x)), api.ErrForm)
		}
	}
}

// P10.2: all numbers that two bytes can tell, in frames of all zeros, of which those that fit are texts.
func TestUnpackOfNumbers(t *testing.T) {
	for many, fits := range map[int][2]int{1: {1, 40}, 2: {41, 88}, 3: {89, 136}} {
		b := laid(make([]byte, fits[0]), 8)
		if len(b) != 48*many {
			t.Fatalf("%d parts: %d bytes", many, len(b))
		}
		for n := range 65536 {
			if fits[0] <= n && n <= fits[1] {
				unpacks(t, n, numbered(b, n), make([]byte, n), 8, api.OK)
			} else {
				refused(t, n, numbered(b, n), api.ErrForm)
			}
		}
	}
}

// P10.2: a number that is 0, or that of a text whose frame is longer or shorter, by as little as may be, and by much.
func TestUnpackOfWrongNumbers(t *testing.T) {
	for _, x := range []struct {
		n     int
		wrong []int
	}{
		{1, []int{0, 41, 88, 89, 256, 257, 1000, 1001, 65535}},
		{40, []int{0, 41, 42, 88, 40 + 256, 40 << 8, 65535}},
		{41, []int{0, 1, 39, 40, 89, 90, 41 + 256, 41 << 8, 65535}},
		{88, []int{0, 40, 89, 136, 88 + 256, 65535}},
		{89, []int{0, 41, 88, 137, 65535}},
		{api.MaxPdu, []int{0, 40, 952, 1001, 1048, 1049, api.MaxPdu &^ 255, 65535}},
	} {
		for _, text := range texts(x.n) {
			b := laid(text, 1)
			unpacks(t, x.n, numbered(b, x.n), text, 1, api.OK)
			for _, n := range x.wrong {
				refused(t, n, numbered(b, n), api.ErrForm)
			}
		}
	}
}

// P10.2: each byte between the text and the trailer, with each bit; the bytes on both sides of these may be any.
func TestUnpackOfBytesBetween(t *testing.T) {
	for _, n := range []int{1, 2, 39, 40, 41, 60, 87, 88, 89, 953, 999, api.MaxPdu} {
		text := texts(n)[1]
		b := laid(text, 255)
		for place := n; place < len(b)-8; place++ {
			for i := range 8 {
				refused(t, []int{n, place}, changed(b, place, 1<<i), api.ErrForm)
			}
		}
		unpacks(t, n, changed(b, n-1, 0), append(bytes.Clone(text[:n-1]), 0), 255, api.OK)
		unpacks(t, n, changed(b, -8, 0), text, 0, api.OK)
	}
	two := changed(changed(laid([]byte{1}, 0), 1, 255), 2, 1)
	refused(t, "bytes whose sum is 256", two, api.ErrForm)
}

// P10.2: texts of more than MaxPdu bytes, up to the most that two bytes can tell; and of more yet, whose frame no number tells.
func TestUnpackOfLongTexts(t *testing.T) {
	for _, n := range []int{1001, 1002, 1047, 1048, 1049, 1050, 1096, 1097, 2000, 4096, 65279, 65280, 65512, 65513, 65534, 65535} {
		for _, text := range [][]byte{make([]byte, n), bytes.Repeat([]byte{6}, n)} {
			refused(t, n, laid(text, 7), api.ErrLong)
		}
	}
	unpacks(t, api.MaxPdu, laid(make([]byte, api.MaxPdu), 7), make([]byte, api.MaxPdu), 7, api.OK)
	for _, n := range []int{65536, 65537, 65576, 65577, 65624, 65536 + 1000, 65536 + 1001} {
		refused(t, n, laid(make([]byte, n), 7), api.ErrForm)
	}
}

// P10.2: two that are wrong at once: the length is told ahead of the check, that of the form, and that of the text's being too long.
func TestFirstError(t *testing.T) {
	for _, n := range []int{5, 41, api.MaxPdu - 1, 1001, 1050} {
		b := laid(bytes.Repeat([]byte{4}, n), 7)
		faults := [][]byte{changed(b, -7, 1), numbered(b, 0), numbered(b, n+48), numbered(b, n+49), changed(b, -9, 1), changed(numbered(b, 0), -7, 255), changed(changed(b, -9, 1), -7, 1)}
		if n > 48 {
			faults = append(faults, numbered(b, n-48))
		}
		for i, x := range faults {
			refused(t, i, x, api.ErrForm)
			refused(t, i, x[:len(x)-1], api.ErrForm)
			for place := len(x) - 4; place < len(x); place++ {
				y := bytes.Clone(x)
				y[place] ^= 0x10
				refused(t, []int{i, place}, y, api.ErrSum)
				refused(t, []int{i, place}, append(y, 0), api.ErrForm)
			}
		}
		b[len(b)-1] ^= 1
		refused(t, n, b, api.ErrSum)
		refused(t, n, b[:len(b)-1], api.ErrForm)
	}
}

// P10.3: bytes of each length up to some parts, and those of frames: the last one is that behind which nothing is left.
func TestCells(t *testing.T) {
	n := noise(77)
	for many := range 300 {
		b := n.text(many)
		was := bytes.Clone(b)
		got := told(frame.Cells(b), 0)
		if !slices.Equal(got, parts(b)) {
			t.Errorf("Cells of %d bytes: %v", many, got)
		}
		for i, x := range got {
			if x.last != (many%48 == 0 && i == many/48-1) {
				t.Errorf("Cells of %d bytes: the part %d is the last one: %t", many, i, x.last)
			}
		}
		if !bytes.Equal(b, was) {
			t.Errorf("Cells changed %x to %x", was, b)
		}
	}
	for _, many := range lengths {
		b := laid(n.text(many), 2)
		if got := told(frame.Cells(b), 0); !slices.Equal(got, parts(b)) || len(got) != frame.Many(many) {
			t.Errorf("Cells of the frame of %d bytes: %v", many, got)
		}
	}
}

// P10.3: the lengths one by one, as the chapter says them.
func TestCellsOfLengths(t *testing.T) {
	for _, x := range []struct{ many, parts, last int }{
		{0, 0, 0}, {1, 0, 0}, {47, 0, 0}, {48, 1, 1}, {49, 1, 0}, {95, 1, 0}, {96, 2, 1}, {97, 2, 0}, {143, 2, 0}, {144, 3, 1},
	} {
		parts, last := 0, 0
		for p, is := range frame.Cells(bytes.Repeat([]byte{9}, x.many)) {
			parts++
			if is {
				last++
			}
			if p != [48]byte(bytes.Repeat([]byte{9}, 48)) {
				t.Errorf("of %d bytes: %x", x.many, p)
			}
		}
		if parts != x.parts || last != x.last {
			t.Errorf("of %d bytes: %d parts, of which %d are the last one", x.many, parts, last)
		}
	}
	if got := told(frame.Cells(nil), 0); len(got) != 0 {
		t.Errorf("of nil: %v", got)
	}
}

// P10.3: left early, wherever that is, and the next time all are told again; and told while they are told.
func TestCellsLeftEarly(t *testing.T) {
	n := noise(5)
	for _, many := range []int{48, 144, 150, 240} {
		b := n.text(many)
		want := parts(b)
		all := frame.Cells(b)
		for most := 1; most <= len(want); most++ {
			if got := told(all, most); !slices.Equal(got, want[:most]) {
				t.Errorf("of %d bytes, left behind %d: %v", many, most, got)
			}
			if got := told(all, 0); !slices.Equal(got, want) {
				t.Errorf("of %d bytes, again: %v", many, got)
			}
		}
		i := 0
		for p, last := range all {
			if (part{p, last}) != want[i] || !slices.Equal(told(all, 0), want) {
				t.Errorf("of %d bytes, in one another, at %d", many, i)
			}
			i++
		}
		if i != len(want) {
			t.Errorf("of %d bytes, in one another: %d", many, i)
		}
	}
}

// P10.3: no part is told behind one at which the function that is handed in said that it has enough.
func TestCellsEnough(t *testing.T) {
	for most := 1; most <= 4; most++ {
		asked := 0
		frame.Cells(make([]byte, 200))(func([48]byte, bool) bool {
			asked++
			return asked < most
		})
		if asked != most {
			t.Errorf("asked %d times, not %d", asked, most)
		}
	}
}

// R3, R5: what becomes of the bytes behind the call, and meanwhile, and what is done with a part, changes none.
func TestCellsOfTheirOwn(t *testing.T) {
	n := noise(6)
	b := n.text(200)
	want := parts(b)
	all := frame.Cells(b[:192])
	whole := parts(b[:192])
	rest := frame.Cells(b)
	for i := range b {
		b[i] ^= 0xff
	}
	if got := told(all, 0); !slices.Equal(got, whole) {
		t.Errorf("behind the change: %v", got)
	}
	i := 0
	for p, last := range rest {
		if (part{p, last}) != want[i] {
			t.Errorf("the part %d: %x, %t", i, p, last)
		}
		for j := range p {
			p[j], b[j] = byte(i), byte(i)
		}
		clear(b[48:])
		i++
	}
	if got := told(rest, 0); i != len(want) || !slices.Equal(got, want) {
		t.Errorf("told again: %d, %v", i, got)
	}
}

// P10.3: how many parts, one by one.
func TestMany(t *testing.T) {
	for _, x := range []struct{ n, want int }{
		{math.MinInt, 0}, {math.MinInt + 1, 0}, {-1 << 32, 0}, {-49, 0}, {-48, 0}, {-8, 0}, {-1, 0}, {0, 0},
		{1, 1}, {2, 1}, {39, 1}, {40, 1}, {41, 2}, {47, 2}, {48, 2}, {49, 2}, {88, 2}, {89, 3}, {136, 3}, {137, 4},
		{999, 21}, {api.MaxPdu, 21}, {api.MaxPdu + 1, 22}, {1048, 22}, {1049, 23}, {65535, 1366}, {65536, 1366},
		{1 << 32, (1<<32 + 55) / 48}, {api.MaxTime, (api.MaxTime + 55) / 48},
		{math.MaxInt - 55, math.MaxInt / 48}, {math.MaxInt, math.MaxInt/48 + 1},
	} {
		if got := frame.Many(x.n); got != x.want {
			t.Errorf("Many(%d): %d, not %d", x.n, got, x.want)
		}
	}
}

// P10.3: of small numbers and great ones the parts have room for the text and the trailer, and one part less has not; of numbers below 1 there are none.
func TestManyIsEnough(t *testing.T) {
	var l []int
	for n := range 5000 {
		l = append(l, n+1, math.MaxInt-n)
	}
	for i := range 62 {
		l = append(l, 1<<i, 1<<i+1, 1<<(i+1)-1, 3<<i/2+1)
	}
	for _, n := range l {
		many := frame.Many(n)
		if many < 1 || uint64(many)*48 < uint64(n)+8 || uint64(many-1)*48 >= uint64(n)+8 {
			t.Errorf("Many(%d): %d", n, many)
		}
		if got := frame.Many(1 - n); got != 0 {
			t.Errorf("Many(%d): %d", 1-n, got)
		}
	}
}

// P10.3: what Many says is how many parts a frame is told in, of which the last one is told so.
func TestManyOfFrames(t *testing.T) {
	for n := 1; n <= api.MaxPdu; n++ {
		b, _ := frame.Pack(make([]byte, n), 0)
		got := told(frame.Cells(b), 0)
		if len(got) != frame.Many(n) || !got[len(got)-1].last {
			t.Errorf("a text of %d bytes: %d parts", n, len(got))
		}
	}
}

// rows are patterns of up to 32 bits in a row, the first of which is turned over: all short ones, and of each length that of all its bits, that of its ends, and two others.
func rows() []uint32 {
	var l []uint32
	for short := uint32(1); short < 64; short += 2 {
		l = append(l, short)
	}
	n := noise(32)
	for many := 7; many <= 32; many++ {
		ends := uint32(1) | 1<<(many-1)
		ones := ^uint32(0) >> (32 - many)
		l = append(l, ends, ones, ends|uint32(n.next())&ones, ends|uint32(n.next())&ones)
	}
	return l
}

// P10.4: whatever is turned over within 32 bits in a row, at any place, both ends too, isn't unpacked.
func TestBitsInARow(t *testing.T) {
	for _, n := range []int{1, 40, 41, 60} {
		b, _ := frame.Pack(texts(n)[2], 77)
		for from := range 8 * len(b) {
			for _, row := range rows() {
				if c, within := turned(b, from, row); within {
					refused(t, []any{n, from, row}, c, api.ErrSum)
				}
			}
		}
	}
}

// P10.4: so it is in a frame of the most bytes, with each bit alone and some rows at each place.
func TestBitsInALongRow(t *testing.T) {
	b, _ := frame.Pack(texts(api.MaxPdu)[3], 0)
	n := noise(12)
	for from := range 8 * len(b) {
		for _, row := range []uint32{1, math.MaxUint32, uint32(n.next()) | 1} {
			if c, within := turned(b, from, row); within {
				refused(t, []any{from, row}, c, api.ErrSum)
			}
		}
	}
}

// P10.4: each byte of a frame, set to another one.
func TestBytesThatAreChanged(t *testing.T) {
	b, _ := frame.Pack(texts(43)[3], 9)
	for place := range b {
		for x := 1; x < 256; x++ {
			c := bytes.Clone(b)
			c[place] ^= byte(x)
			refused(t, place, c, api.ErrSum)
		}
	}
}

// P10.4: a frame that lacks a part, or has one twice, or two in another order, isn't unpacked.
func TestPartsThatAreMoved(t *testing.T) {
	b, _ := frame.Pack(texts(180)[2], 9)
	for i := range len(b) / 48 {
		refused(t, i, slices.Concat(b[:48*i], b[48*i+48:]), api.ErrSum)
		refused(t, i, slices.Concat(b[:48*i+48], b[48*i:]), api.ErrSum)
		if i > 0 {
			refused(t, i, slices.Concat(b[:48*i-48], b[48*i:48*i+48], b[48*i-48:48*i], b[48*i+48:]), api.ErrSum)
		}
	}
}

// R3: a frame and a text are memory of their own: neither is changed with what was handed in, nor is that with them, what lies behind it included.
func TestOwnMemory(t *testing.T) {
	for _, n := range lengths {
		room := bytes.Repeat([]byte{3}, n+60)
		b, _ := frame.Pack(room[:n], 4)
		other, _ := frame.Pack(room[:n], 4)
		if !bytes.Equal(room, bytes.Repeat([]byte{3}, n+60)) {
			t.Errorf("Pack of %d bytes wrote behind them: %x", n, room)
		}
		clear(room)
		want := bytes.Repeat([]byte{3}, n)
		unpacks(t, n, b, want, 4, api.OK)

		text, _, _ := frame.Unpack(b)
		again, _, _ := frame.Unpack(b)
		_ = append(text, 0xdd)
		for i := range text {
			text[i] = 0xee
		}
		if !bytes.Equal(b, other) || !bytes.Equal(again, want) {
			t.Errorf("changed with the text of %d bytes: %x, %x", n, b, again)
		}
		clear(b)
		if !bytes.Equal(again, want) || !bytes.Equal(other, laid(want, 4)) {
			t.Errorf("changed with the frame of %d bytes: %x, %x", n, again, other)
		}
	}
}

// R3: bytes behind those that are handed in are neither read nor written.
func TestBytesBehind(t *testing.T) {
	b := laid([]byte{1, 2, 3}, 4)
	room := append(bytes.Clone(b), bytes.Repeat([]byte{9}, 200)...)
	was := bytes.Clone(room)
	unpacks(t, "with room", room[:48], []byte{1, 2, 3}, 4, api.OK)
	if got := told(frame.Cells(room[:48]), 0); !slices.Equal(got, parts(b)) {
		t.Errorf("Cells: %v", got)
	}
	if !bytes.Equal(room, was) {
		t.Errorf("changed: %x", room)
	}
}

// R5: what is answered hangs on the arguments alone, not on what was asked ahead of it.
func TestAskedAgain(t *testing.T) {
	n := noise(50)
	for range 300 {
		text, mark := n.text(1+int(n.next()%api.MaxPdu)), byte(n.next())
		b, _ := frame.Pack(text, mark)
		refused(t, "spoilt", append(bytes.Clone(b[:len(b)-1]), b[len(b)-1]^1), api.ErrSum)
		packs(t, nil, mark, nil, api.ErrArg)
		packs(t, text, mark, b, api.OK)
		unpacks(t, "again", b, text, mark, api.OK)
	}
}
