package gather_test

import (
	"bytes"
	"fmt"
	"math"
	"math/big"
	"testing"

	"trunkline/api"
	"trunkline/frame"
	"trunkline/gather"
	"trunkline/sums"
)

const top = api.MaxTime

// most is how many parts may wait, as the chapter comes to: the frame of 1000 bytes and a trailer of 8 has 21 of 48.
const most = 21

// edges are the numbers at both ends of what a WAIT is held to, and of what a time may be, those beyond, and some between.
var edges = []int{math.MinInt, math.MinInt + 1, -top - 1, -top, -1, 0, 1, 2, 10, top / 2, top - 1, top, top + 1, 2 * top, 4 * top, math.MaxInt - 1, math.MaxInt}

// noise makes numbers by a fixed rule, so that every run has the same ones.
type noise uint64

func (n *noise) below(most int) int {
	*n = *n*6364136223846793005 + 1442695040888963407
	return int((uint64(*n) >> 32) % uint64(most))
}

func (n *noise) text(many int) []byte {
	b := make([]byte, many)
	for i := range b {
		b[i] = byte(n.below(256))
	}
	return b
}

type part = [48]byte

// checked is bytes of their own with the check of layer 1 behind them.
func checked(b []byte) []byte {
	check := sums.Long(b)
	return append(bytes.Clone(b), byte(check>>24), byte(check>>16), byte(check>>8), byte(check))
}

// laid is the parts of a frame by layer 10's words, of a text that is too long for one, too.
func laid(text []byte, mark byte) []part {
	b := bytes.Clone(text)
	for (len(b)+8)%48 != 0 {
		b = append(b, 0)
	}
	return cut(checked(append(b, mark, 0, byte(len(text)>>8), byte(len(text)))))
}

// cut is bytes as parts.
func cut(b []byte) []part {
	var l []part
	for ; len(b) > 0; b = b[48:] {
		l = append(l, part(b[:48]))
	}
	return l
}

// joined is parts as bytes.
func joined(l []part) []byte {
	var b []byte
	for _, p := range l {
		b = append(b, p[:]...)
	}
	return b
}

// changed is a frame's parts in which the byte at a place, counted from the end if it is below 0, is another one, with the check made right again.
func changed(l []part, place int, x byte) []part {
	b := joined(l)
	if place < 0 {
		place += len(b)
	}
	b[place] = x
	return cut(checked(b[:len(b)-4]))
}

// numbered is a frame's parts in which the number of the text's bytes is that, with the check made right again.
func numbered(l []part, number int) []part {
	return changed(changed(l, -6, byte(number>>8)), -5, byte(number))
}

// damaged is a frame's parts of which one has a bit turned over.
func damaged(l []part, bit int) []part {
	b := joined(l)
	b[bit/8] ^= 0x80 >> (bit % 8)
	return cut(b)
}

// words is a gatherer by the chapter's words.
type words struct {
	wait    *big.Int
	waiting []part
	first   int
	lost    int
	skips   bool
}

func wordsOf(wait int) *words {
	if wait < 1 {
		wait = 1
	}
	if wait > top {
		wait = top
	}
	return &words{wait: big.NewInt(int64(wait))}
}

func (w *words) Tick(t int) bool {
	if len(w.waiting) == 0 {
		return false
	}
	behind := new(big.Int).Sub(big.NewInt(int64(t)), big.NewInt(int64(w.first)))
	if behind.Cmp(w.wait) < 0 {
		return false
	}
	w.waiting = nil
	w.lost++
	return true
}

func (w *words) Take(t int, p part, last bool) ([]byte, byte, api.Errno) {
	w.Tick(t)
	if w.skips {
		if last {
			w.skips = false
		}
		return nil, 0, api.ErrShort
	}
	w.waiting = append(w.waiting, p)
	if len(w.waiting) == 1 {
		w.first = t
	}
	if !last && len(w.waiting) < most {
		return nil, 0, api.ErrShort
	}
	all := joined(w.waiting)
	w.waiting = nil
	if !last {
		w.lost++
		w.skips = true
		return nil, 0, api.ErrLong
	}
	text, mark, e := frame.Unpack(all)
	if e != api.OK {
		w.lost++
	}
	return text, mark, e
}

func (w *words) Parts() int { return len(w.waiting) }
func (w *words) Lost() int  { return w.lost }

// either is a gatherer, or the tests' own.
type either interface {
	Take(t int, p [48]byte, last bool) ([]byte, byte, api.Errno)
	Tick(t int) bool
	Parts() int
	Lost() int
}

// step is one call: Take of a part, or Tick.
type step struct {
	tick bool
	t    int
	p    part
	last bool
}

// tick and take are steps.
func tick(t int) step                    { return step{tick: true, t: t} }
func take(t int, p part, last bool) step { return step{t: t, p: p, last: last} }

// does is what a step answers, and what is told behind it.
func does(g either, s step) string {
	if s.tick {
		is := g.Tick(s.t)
		return fmt.Sprint("Tick ", is, ", ", g.Parts(), " wait, lost ", g.Lost())
	}
	text, mark, e := g.Take(s.t, s.p, s.last)
	return fmt.Sprintf("Take %x, %d, %d, %d wait, lost %d", text, mark, e, g.Parts(), g.Lost())
}

func (s step) String() string {
	if s.tick {
		return fmt.Sprint("Tick ", s.t)
	}
	return fmt.Sprintf("Take %d, %.8x, %t", s.t, s.p, s.last)
}

// held takes steps with a gatherer and with the tests' own, and holds their answers against each other.
func held(t *testing.T, wait int, steps []step) {
	t.Helper()
	g, w := gather.New(wait), wordsOf(wait)
	for i, s := range steps {
		if got, want := does(g, s), does(w, s); got != want {
			t.Fatalf("WAIT %d, %v: the step %d: %s, not %s", wait, steps[:i+1], i, got, want)
		}
	}
}

// is holds how many parts wait, and how many frames were lost, against what they should be.
func is(t *testing.T, what any, g *gather.Gather, parts, lost int) {
	t.Helper()
	if g.Parts() != parts || g.Lost() != lost {
		t.Errorf("%v: %d wait, %d lost, not %d and %d", what, g.Parts(), g.Lost(), parts, lost)
	}
}

// told takes a part, and holds the answer against a text and a mark.
func told(t *testing.T, what any, g *gather.Gather, s step, text []byte, mark byte) {
	t.Helper()
	if got, m, e := g.Take(s.t, s.p, s.last); !bytes.Equal(got, text) || m != mark || e != api.OK {
		t.Errorf("%v: %v: %x, %d, %d, not %x, %d", what, s, got, m, e, text, mark)
	}
}

// none takes a part of which an error is told, and nothing beside it.
func none(t *testing.T, what any, g *gather.Gather, s step, e api.Errno) {
	t.Helper()
	if got, m, is := g.Take(s.t, s.p, s.last); len(got) != 0 || m != 0 || is != e {
		t.Errorf("%v: %v: %x, %d, %d, not none, %d", what, s, got, m, is, e)
	}
}

// ticks comes to a time, and holds the answer against what it should be.
func ticks(t *testing.T, what any, g *gather.Gather, at int, want bool) {
	t.Helper()
	if got := g.Tick(at); got != want {
		t.Errorf("%v: Tick(%d): %t", what, at, got)
	}
}

// whole takes all parts of a frame at a time: its text is told behind the last one, and till then they wait.
func whole(t *testing.T, what any, g *gather.Gather, at int, text []byte, mark byte) {
	t.Helper()
	lost := g.Lost()
	l := laid(text, mark)
	for i, p := range l[:len(l)-1] {
		none(t, what, g, take(at, p, false), api.ErrShort)
		is(t, what, g, i+1, lost)
	}
	told(t, what, g, take(at, l[len(l)-1], true), text, mark)
	is(t, what, g, 0, lost)
}

// fill has so many parts wait, none of which is the last one.
func fill(t *testing.T, what any, g *gather.Gather, at, many int) {
	t.Helper()
	for range many {
		none(t, what, g, take(at, part{1}, false), api.ErrShort)
	}
}

// P11.1: the chapter's example.
func TestExample(t *testing.T) {
	text := []byte("forty bytes are one part, and one is more")
	l := laid(text, 6)
	if len(text) != 41 || len(l) != 2 {
		t.Fatalf("%d bytes, %d parts", len(text), len(l))
	}
	g := gather.New(10)
	none(t, "the first", g, take(0, l[0], false), api.ErrShort)
	is(t, "the first", g, 1, 0)
	told(t, "the last", g, take(0, l[1], true), text, 6)
	is(t, "the last", g, 0, 0)
}

// P11.1, P11.3: texts of each length, one behind the other, with all marks, at times that go on.
func TestEachLength(t *testing.T) {
	g := gather.New(1)
	n := noise(1)
	for many := 1; many <= api.MaxPdu; many++ {
		whole(t, many, g, many/3, n.text(many), byte(many))
	}
	is(t, "all", g, 0, 0)
	for _, many := range []int{1, 40, 41, api.MaxPdu} {
		for _, x := range []byte{0, 255} {
			whole(t, many, gather.New(1), 0, bytes.Repeat([]byte{x}, many), x)
		}
	}
}

// P11.1, P11.3: parts as layer 10 tells them, of frames that it packs.
func TestPackedFrames(t *testing.T) {
	g := gather.New(5)
	n := noise(2)
	for i, many := range []int{1, 2, 39, 40, 41, 88, 89, 500, api.MaxPdu - 1, api.MaxPdu, 40, 1} {
		text := n.text(many)
		b, _ := frame.Pack(text, byte(i))
		for p, last := range frame.Cells(b) {
			if last {
				told(t, many, g, take(i, p, last), text, byte(i))
			} else {
				none(t, many, g, take(i, p, last), api.ErrShort)
			}
		}
		is(t, many, g, 0, 0)
	}
}

// P11.1: what New holds a WAIT to: parts are dropped at that many ticks behind the first one, and not one tick ahead of that; at Tick and at Take alike.
func TestWait(t *testing.T) {
	for _, x := range []struct{ wait, is int }{
		{math.MinInt, 1}, {-top, 1}, {-1, 1}, {0, 1}, {1, 1}, {2, 2}, {10, 10}, {1 << 40, 1 << 40},
		{top - 1, top - 1}, {top, top}, {top + 1, top}, {2 * top, top}, {math.MaxInt, top},
	} {
		for _, first := range []int{0, 1, 5, 1 << 30, top - 1, top} {
			what := []int{x.wait, first}
			g := gather.New(x.wait)
			none(t, what, g, take(first, part{}, false), api.ErrShort)
			ticks(t, what, g, first, false)
			ticks(t, what, g, first+x.is-1, false)
			is(t, what, g, 1, 0)
			ticks(t, what, g, first+x.is, true)
			is(t, what, g, 0, 1)
			ticks(t, what, g, first+x.is, false)
			is(t, what, g, 0, 1)

			g = gather.New(x.wait)
			none(t, what, g, take(first, part{}, false), api.ErrShort)
			none(t, what, g, take(first+x.is-1, part{}, false), api.ErrShort)
			is(t, what, g, 2, 0)
			none(t, what, g, take(first+x.is, part{}, false), api.ErrShort)
			is(t, what, g, 1, 1)

			g = gather.New(x.wait)
			none(t, what, g, take(first, part{}, false), api.ErrShort)
			ticks(t, what, g, first+x.is+1, true)
			is(t, what, g, 0, 1)
		}
	}
}

// P11.1: with no part that waits, no time drops any.
func TestNothingWaits(t *testing.T) {
	g := gather.New(10)
	for _, at := range edges {
		ticks(t, "at the beginning", g, at, false)
	}
	is(t, "at the beginning", g, 0, 0)
	whole(t, "a frame", g, 3, []byte{1}, 2)
	whole(t, "a frame", g, 3, make([]byte, 41), 2)
	for _, at := range []int{3, 12, 13, 14, top} {
		ticks(t, "behind a frame", g, at, false)
	}
	is(t, "behind a frame", g, 0, 0)
	whole(t, "long behind it", g, top, make([]byte, 41), 2)
	is(t, "long behind it", g, 0, 0)
}

// P11.1: the time is the first part's, whatever came behind it.
func TestTimeOfFirst(t *testing.T) {
	g := gather.New(10)
	for at := 100; at < 110; at++ {
		ticks(t, at, g, at, false)
		none(t, at, g, take(at, part{}, false), api.ErrShort)
	}
	is(t, "in time", g, 10, 0)
	ticks(t, "at WAIT", g, 110, true)
	is(t, "at WAIT", g, 0, 1)
	none(t, "behind it", g, take(115, part{}, false), api.ErrShort)
	ticks(t, "behind it", g, 124, false)
	ticks(t, "behind it", g, 125, true)
	is(t, "behind it", g, 0, 2)
}

// P11.1: a frame whose last part comes as late as may be, and one tick later, when the others are dropped and it is a frame by itself.
func TestLastPartInTime(t *testing.T) {
	n := noise(3)
	for _, many := range []int{41, 100, api.MaxPdu} {
		text := n.text(many)
		l := laid(text, 9)
		for late := range 12 {
			g := gather.New(10)
			for _, p := range l[:len(l)-1] {
				none(t, many, g, take(50, p, false), api.ErrShort)
			}
			s := take(50+late, l[len(l)-1], true)
			if late < 10 {
				told(t, late, g, s, text, 9)
				is(t, late, g, 0, 0)
			} else {
				none(t, late, g, s, unpacked(l[len(l)-1:]))
				is(t, late, g, 0, 2)
			}
			whole(t, "the frame behind it", g, 50+late, text, 8)
		}
	}
	g := gather.New(10)
	fill(t, "a frame of one part", g, 0, 3)
	told(t, "a frame of one part", g, take(10, laid([]byte("alone"), 1)[0], true), []byte("alone"), 1)
	is(t, "a frame of one part", g, 0, 1)
}

// unpacked is the error of a frame, by layer 10.
func unpacked(l []part) api.Errno {
	_, _, e := frame.Unpack(joined(l))
	return e
}

// P11.1: a part that comes when those that wait are dropped by its time is the first of those that wait then, with its time.
func TestPartThatDrops(t *testing.T) {
	for _, late := range []int{10, 11, 100, top - 7} {
		g := gather.New(10)
		fill(t, late, g, 7, 4)
		l := laid(make([]byte, 60), 3)
		at := 7 + late
		none(t, late, g, take(at, l[0], false), api.ErrShort)
		is(t, late, g, 1, 1)
		ticks(t, late, g, at+9, false)
		told(t, late, g, take(at+9, l[1], true), make([]byte, 60), 3)
		is(t, late, g, 0, 1)

		fill(t, late, g, at+9, most-1)
		none(t, late, g, take(at+19, part{}, false), api.ErrShort)
		is(t, late, g, 1, 2)
		ticks(t, late, g, at+28, false)
		ticks(t, late, g, at+29, true)
		is(t, late, g, 0, 3)
	}
}

// P11.1: behind each way to end, the next part is the first one, and its time counts.
func TestTimeBehindEnds(t *testing.T) {
	ends := map[string]func(g *gather.Gather){
		"told":    func(g *gather.Gather) { whole(t, "told", g, 9, make([]byte, 41), 1) },
		"refused": func(g *gather.Gather) { none(t, "refused", g, take(9, part{}, true), api.ErrSum) },
		"dropped": func(g *gather.Gather) { fill(t, "dropped", g, 0, 1); ticks(t, "dropped", g, 10, true) },
		"skipped": func(g *gather.Gather) {
			fill(t, "skipped", g, 9, most-1)
			none(t, "skipped", g, take(9, part{}, false), api.ErrLong)
			none(t, "skipped", g, take(9, part{}, true), api.ErrShort)
		},
	}
	for what, end := range ends {
		g := gather.New(10)
		end(g)
		lost := g.Lost()
		is(t, what, g, 0, lost)
		ticks(t, what, g, 10, false)
		ticks(t, what, g, 1000, false)
		fill(t, what, g, 18, 1)
		ticks(t, what, g, 27, false)
		is(t, what, g, 1, lost)
		ticks(t, what, g, 28, true)
		is(t, what, g, 0, lost+1)
	}
}

// P11.1: how many parts may wait: one less, as many, and one more, with a last one and without.
func TestMost(t *testing.T) {
	if frame.Many(api.MaxPdu) != most {
		t.Fatalf("Most is %d, not %d", frame.Many(api.MaxPdu), most)
	}
	g := gather.New(10)
	fill(t, "one less", g, 0, most-1)
	is(t, "one less", g, most-1, 0)
	none(t, "as many, with a last one", g, take(0, part{}, true), api.ErrSum)
	is(t, "as many, with a last one", g, 0, 1)
	none(t, "behind it", g, take(0, part{}, false), api.ErrShort)
	is(t, "behind it", g, 1, 1)

	g = gather.New(10)
	fill(t, "one less", g, 0, most-2)
	none(t, "one less, with a last one", g, take(0, part{}, true), api.ErrSum)
	is(t, "one less, with a last one", g, 0, 1)

	g = gather.New(10)
	fill(t, "one less", g, 0, most-1)
	none(t, "as many", g, take(0, part{}, false), api.ErrLong)
	is(t, "as many", g, 0, 1)
	none(t, "one more", g, take(0, part{}, false), api.ErrShort)
	is(t, "one more", g, 0, 1)
	none(t, "one more, the last one", g, take(0, part{}, true), api.ErrShort)
	is(t, "one more, the last one", g, 0, 1)
	whole(t, "behind it", g, 0, make([]byte, api.MaxPdu), 5)
	is(t, "behind it", g, 0, 1)
}

// P11.1: a frame of the longest text is told again and again, and one of a text of one byte more is too long, though it is a frame but for that.
func TestLongestFrames(t *testing.T) {
	n := noise(4)
	g := gather.New(10)
	for i := range 5 {
		whole(t, "the longest", g, i, n.text(api.MaxPdu), byte(i))
		for _, many := range []int{api.MaxPdu + 1, api.MaxPdu + 48, 2000, 65535} {
			lost := g.Lost()
			for j, p := range laid(n.text(many), 3) {
				want, parts, more := api.ErrShort, j+1, 0
				if j == most-1 {
					want = api.ErrLong
				}
				if j >= most-1 {
					parts, more = 0, 1
				}
				none(t, many, g, take(i, p, j == (many+8+47)/48-1), want)
				is(t, many, g, parts, lost+more)
			}
		}
	}
}

// P11.1: while it skips no part waits, and no time matters, till the last one, which is dropped, too; the part behind that waits.
func TestSkips(t *testing.T) {
	for _, many := range []int{0, 1, 2, most - 1, most, most + 1, 2 * most, 100} {
		g := gather.New(10)
		fill(t, many, g, 0, most-1)
		none(t, many, g, take(1, part{}, false), api.ErrLong)
		for i := range many {
			none(t, many, g, take(i*i, part{byte(i)}, false), api.ErrShort)
			ticks(t, many, g, i*i+10, false)
			is(t, many, g, 0, 1)
		}
		for _, at := range edges {
			ticks(t, many, g, at, false)
		}
		is(t, many, g, 0, 1)
		none(t, many, g, take(3, laid([]byte("a frame by itself"), 4)[0], true), api.ErrShort)
		is(t, many, g, 0, 1)
		ticks(t, many, g, top, false)
		l := laid(make([]byte, 50), 7)
		none(t, many, g, take(3, l[0], false), api.ErrShort)
		is(t, many, g, 1, 1)
		told(t, many, g, take(12, l[1], true), make([]byte, 50), 7)
		is(t, many, g, 0, 1)
		told(t, many, g, take(3, laid([]byte("alone"), 4)[0], true), []byte("alone"), 4)
	}
}

// P11.1: it skips no more behind one last part, and skips again when there are too many again.
func TestSkipsAgain(t *testing.T) {
	g := gather.New(10)
	for i := range 5 {
		fill(t, i, g, i, most-1)
		is(t, i, g, most-1, i)
		none(t, i, g, take(i, part{}, false), api.ErrLong)
		is(t, i, g, 0, i+1)
		none(t, i, g, take(i, part{}, false), api.ErrShort)
		none(t, i, g, take(i, part{}, true), api.ErrShort)
		is(t, i, g, 0, i+1)
	}
	g = gather.New(10)
	fill(t, "parts that are dropped are no more counted", g, 0, most-1)
	fill(t, "parts that are dropped are no more counted", g, 10, most-1)
	is(t, "parts that are dropped are no more counted", g, most-1, 1)
	none(t, "as many", g, take(11, part{}, false), api.ErrLong)
	is(t, "as many", g, 0, 2)
}

// wrongs are frames that Unpack refuses, of some lengths, up to as many parts as may wait.
func wrongs() map[string][]part {
	n := noise(5)
	m := map[string][]part{"zeros": {{}}, "more zeros": make([]part, most)}
	for _, many := range []int{1, 40, 41, 88, 89, 952, 953, api.MaxPdu - 1, api.MaxPdu} {
		l := laid(n.text(many), byte(many))
		name := func(what string) string { return fmt.Sprint(what, " of ", many) }
		m[name("the first bit")] = damaged(l, 0)
		m[name("the last bit")] = damaged(l, 384*len(l)-1)
		m[name("the mark")] = damaged(l, 384*len(l)-64)
		m[name("behind the mark")] = changed(l, -7, 1)
		m[name("no number")] = numbered(l, 0)
		m[name("a part more")] = numbered(l, 48*len(l)-7)
		m[name("too long")] = numbered(l, api.MaxPdu+1)
		m[name("the greatest number")] = numbered(l, 65535)
		if many%48 != 40 {
			m[name("between")] = changed(l, -9, 1)
		}
		if len(l) > 1 {
			m[name("a part less")] = numbered(l, 48*(len(l)-1)-8)
			m[name("turned about")] = append(append([]part{}, l[1:]...), l[0])
			m[name("only the last")] = l[len(l)-1:]
			m[name("but the first")] = l[1:]
		}
	}
	return m
}

// P11.1, R2: a last part whose frame Unpack refuses: its error, one frame is lost, and none waits; the next one is told.
func TestRefused(t *testing.T) {
	seen := map[api.Errno]int{}
	g := gather.New(10)
	for what, l := range wrongs() {
		want := unpacked(l)
		seen[want]++
		lost := g.Lost()
		for i, p := range l[:len(l)-1] {
			none(t, what, g, take(5, p, false), api.ErrShort)
			is(t, what, g, i+1, lost)
		}
		none(t, what, g, take(5, l[len(l)-1], true), want)
		is(t, what, g, 0, lost+1)
		ticks(t, what, g, 100, false)
		whole(t, what, g, 5, []byte("the one behind it is longer than 40 bytes"), 1)
	}
	if seen[api.ErrSum] == 0 || seen[api.ErrForm] == 0 || len(seen) != 2 {
		t.Errorf("errors of wrong frames: %v", seen)
	}
}

// P11.1: each bit of a frame that is turned over is told at its last part, as layer 10 tells it.
func TestDamagedBits(t *testing.T) {
	g := gather.New(10)
	n := noise(6)
	l := laid(n.text(60), 3)
	for bit := range 384 * len(l) {
		wrong := damaged(l, bit)
		none(t, bit, g, take(0, wrong[0], false), api.ErrShort)
		none(t, bit, g, take(0, wrong[1], true), api.ErrSum)
		is(t, bit, g, 0, bit+1)
	}
}

// P11.3: several frames, one behind the other, in time though all of them together aren't: each is its text.
func TestFramesInARow(t *testing.T) {
	n := noise(7)
	g := gather.New(most)
	at := 0
	for i := range 300 {
		many := 1 + n.below(api.MaxPdu)
		text := n.text(many)
		l := laid(text, byte(i))
		for _, p := range l[:len(l)-1] {
			none(t, i, g, take(at, p, false), api.ErrShort)
			at++
		}
		told(t, i, g, take(at, l[len(l)-1], true), text, byte(i))
		is(t, i, g, 0, 0)
	}
}

// sent is a part with whether it is its frame's last one, and of which frame it is.
type sent struct {
	p     part
	last  bool
	frame int
}

// texts are three texts that aren't alike, the first two of so many parts.
func texts(first, second int) [][]byte {
	n := noise(first + 100*second)
	return [][]byte{n.text(48*first - 8), n.text(48*second - 9), n.text(70)}
}

// row is the parts of frames of texts, one behind the other.
func row(l [][]byte) []sent {
	var all []sent
	for i, text := range l {
		parts := laid(text, byte(i+1))
		for j, p := range parts {
			all = append(all, sent{p, j == len(parts)-1, i})
		}
	}
	return all
}

// marks takes parts, all at one time, and counts by the mark the texts that are told; any that is no frame's is an error.
func marks(t *testing.T, g *gather.Gather, all []sent, l [][]byte) map[byte]int {
	t.Helper()
	seen := map[byte]int{}
	for _, x := range all {
		text, mark, e := g.Take(0, x.p, x.last)
		if e != api.OK {
			continue
		}
		if mark < 1 || int(mark) > len(l) || !bytes.Equal(text, l[mark-1]) {
			t.Errorf("a text of no frame: %x, %d", text, mark)
		}
		seen[mark]++
	}
	return seen
}

// P11.3: with a part that is left out, at any place, the frame's text isn't told. The one behind it is, but where the last part is left out, so that both are one; the one behind that is.
func TestLeftOut(t *testing.T) {
	for _, first := range []int{1, 2, 3, most - 1, most} {
		for _, second := range []int{1, 2, 3, most} {
			l := texts(first, second)
			all := row(l)
			for out := range first {
				what := []int{first, second, out}
				g := gather.New(10)
				got := marks(t, g, append(append([]sent{}, all[:out]...), all[out+1:]...), l)
				wantSecond, wantLost := 1, 1
				if first == 1 {
					wantLost = 0
				} else if out == first-1 {
					wantSecond = 0
				}
				if got[1] != 0 || got[2] != wantSecond || got[3] != 1 {
					t.Errorf("%v left out: %v", what, got)
				}
				is(t, what, g, 0, wantLost)
			}
		}
	}
}

// P11.3: with a part that is taken twice, or more often, at any place, no text is told but by other frames. The last part is the frame's end when it comes first, so that its text is told, and then it is a frame by itself: none, but where it was all of it.
func TestTakenTwice(t *testing.T) {
	for _, first := range []int{1, 2, 3, most - 1, most} {
		for _, second := range []int{1, 2, 3, most} {
			l := texts(first, second)
			all := row(l)
			for twice := range first {
				for more := 1; more <= 3; more++ {
					what := []int{first, second, twice, more}
					doubled := append([]sent{}, all[:twice]...)
					for range more {
						doubled = append(doubled, all[twice])
					}
					g := gather.New(10)
					got := marks(t, g, append(doubled, all[twice:]...), l)
					wantFirst, wantLost := 0, 1
					if twice == first-1 {
						wantFirst, wantLost = 1, more
					}
					if first == 1 {
						wantFirst, wantLost = 1+more, 0
					}
					if got[1] != wantFirst || got[2] != 1 || got[3] != 1 {
						t.Errorf("%v taken twice: %v", what, got)
					}
					is(t, what, g, 0, wantLost)
				}
			}
		}
	}
}

// P11.3: a part that is taken again later in the frame, and two that change places.
func TestOutOfOrder(t *testing.T) {
	l := texts(4, 3)
	all := row(l)
	for from := range 4 {
		for to := range 4 {
			if from == to {
				continue
			}
			g := gather.New(10)
			changed := append([]sent{}, all...)
			changed[from].p, changed[to].p = all[to].p, all[from].p
			if got := marks(t, g, changed, l); got[1] != 0 || got[2] != 1 || got[3] != 1 || g.Lost() != 1 {
				t.Errorf("%d and %d change places: %v", from, to, got)
			}
			g = gather.New(10)
			again := append([]sent{}, all...)
			again[to].p = all[from].p
			if got := marks(t, g, again, l); got[1] != 0 || got[2] != 1 || got[3] != 1 || g.Lost() != 1 {
				t.Errorf("%d in the place of %d: %v", from, to, got)
			}
		}
	}
}

// P11.2: a nil Gather, at every call.
func TestNil(t *testing.T) {
	var g *gather.Gather
	for range 2 {
		for _, at := range edges {
			for _, last := range []bool{false, true} {
				none(t, "nil", g, take(at, part{}, last), api.ErrShort)
				none(t, "nil", g, take(at, laid([]byte("alone"), 4)[0], last), api.ErrShort)
			}
			ticks(t, "nil", g, at, false)
			is(t, "nil", g, 0, 0)
		}
	}
}

// R1: one that New didn't make panics nowhere, and gathers, too.
func TestNotOfNew(t *testing.T) {
	for _, at := range edges {
		g := &gather.Gather{}
		is(t, at, g, 0, 0)
		ticks(t, at, g, at, false)
		whole(t, at, g, at, make([]byte, 100), 3)
		fill(t, at, g, at, most-1)
		none(t, at, g, take(at, part{}, false), api.ErrLong)
		none(t, at, g, take(at, part{}, true), api.ErrShort)
		is(t, at, g, 0, 1)
	}
}

// R1: times that go back drop nothing, and the first part's stays.
func TestTimesThatGoBack(t *testing.T) {
	g := gather.New(10)
	fill(t, "first", g, 100, 1)
	for _, at := range []int{99, 90, 89, 1, 0, -1, -top, math.MinInt} {
		ticks(t, at, g, at, false)
		fill(t, at, g, at, 1)
	}
	is(t, "back", g, 9, 0)
	ticks(t, "one ahead", g, 109, false)
	ticks(t, "at WAIT", g, 110, true)
	is(t, "at WAIT", g, 0, 1)
	l := laid(make([]byte, 90), 4)
	none(t, "back", g, take(50, l[0], false), api.ErrShort)
	none(t, "back", g, take(40, l[1], false), api.ErrShort)
	told(t, "back", g, take(0, l[2], true), make([]byte, 90), 4)
	is(t, "back", g, 0, 1)
}

// R1, P11.1: all edges of WAIT, of the first part's time, and of the times behind it, two at a time, at Tick and at Take; held against the tests' own.
func TestEdges(t *testing.T) {
	l := laid(make([]byte, 60), 5)
	for _, wait := range edges {
		for _, first := range edges {
			for _, second := range edges {
				held(t, wait, []step{take(first, l[0], false), tick(second), take(second, l[1], true), tick(first)})
				held(t, wait, []step{take(first, l[0], false), take(second, l[0], false), tick(first), take(first, l[1], true), tick(second)})
				held(t, wait, []step{tick(first), take(second, l[0], false), take(first, l[1], true), take(second, part{}, true)})
			}
		}
	}
}

// shortSteps are the steps of short rows: parts of two frames, one of which is a frame by itself, and Tick, at times next to each other.
func shortSteps() []step {
	l := laid(make([]byte, 60), 5)
	alone := laid([]byte("alone"), 6)
	var all []step
	for at := range 4 {
		all = append(all, tick(at), take(at, l[0], false), take(at, l[1], true), take(at, alone[0], true))
	}
	return all
}

// P11.1, P11.2: all short rows, held against the tests' own.
func TestShortRows(t *testing.T) {
	all := shortSteps()
	for wait := range 5 {
		for _, a := range all {
			for _, b := range all {
				for _, c := range all {
					for _, d := range all {
						held(t, wait, []step{a, b, c, d})
					}
				}
			}
		}
	}
}

// P11.1, P11.2: short rows behind as many parts as may wait, one less, and while it skips; held against the tests' own.
func TestShortRowsBehindMany(t *testing.T) {
	all := shortSteps()
	for _, many := range []int{most - 3, most - 2, most - 1, most, most + 1} {
		var ahead []step
		for range many {
			ahead = append(ahead, take(0, part{2}, false))
		}
		for _, a := range all {
			for _, b := range all {
				for _, c := range all {
					held(t, 3, append(append([]step{}, ahead...), a, b, c))
				}
			}
		}
	}
}

// P11.1 to P11.3: long rows of frames, whole ones and such as have parts left out, taken twice, or damaged, at times that go on, stand still, leap, and now and then go back; held against the tests' own.
func TestLongRows(t *testing.T) {
	for seed := range 40 {
		n := noise(seed + 1000)
		at := 0
		var steps []step
		for len(steps) < 1500 {
			l := laid(n.text(1+n.below(1100)), byte(n.below(256)))
			for i, p := range l {
				at = max(0, at+later(&n))
				if n.below(50) == 0 {
					steps = append(steps, tick(at))
				}
				switch n.below(60) {
				case 0:
				case 1:
					steps = append(steps, take(at, p, false), take(at, p, i == len(l)-1))
				case 2:
					p[n.below(48)] ^= 1 << n.below(8)
					steps = append(steps, take(at, p, i == len(l)-1))
				case 3:
					steps = append(steps, take(at, p, i != len(l)-1))
				default:
					steps = append(steps, take(at, p, i == len(l)-1))
				}
			}
		}
		held(t, 20+n.below(40), steps)
	}
}

// later is by how much a time goes on.
func later(n *noise) int {
	switch n.below(40) {
	case 0:
		return n.below(60)
	case 1:
		return -n.below(5)
	}
	return n.below(2)
}

// R3: what becomes of a part that was handed in, and of a text that was told, changes nothing that the gatherer tells; nor does it change a text that it told.
func TestOwnMemory(t *testing.T) {
	for _, many := range []int{40, 41, 500, api.MaxPdu} {
		g := gather.New(10)
		n := noise(many)
		text, next := n.text(many), n.text(many)
		l := laid(text, 3)
		for i := range l[:len(l)-1] {
			g.Take(0, l[i], false)
			l[i] = part{0xff}
		}
		got, mark, e := g.Take(0, l[len(l)-1], true)
		l[len(l)-1] = part{0xff}
		if !bytes.Equal(got, text) || mark != 3 || e != api.OK {
			t.Fatalf("%d bytes: %x, %d, %d", many, got, mark, e)
		}
		whole(t, many, g, 0, next, 4)
		fill(t, many, g, 0, most-1)
		g.Tick(10)
		if !bytes.Equal(got, text) {
			t.Errorf("a text that was told is now %x", got)
		}
		l = laid(next, 5)
		for _, p := range l[:len(l)-1] {
			g.Take(20, p, false)
			scribble(got)
		}
		told(t, many, g, take(20, l[len(l)-1], true), next, 5)
	}
}

// scribble writes over all of a list, and over what room it has behind its end.
func scribble(b []byte) {
	b = b[:cap(b)]
	for i := range b {
		b[i] ^= 0xa5
	}
}

// R3: texts that are told one behind the other share nothing.
func TestTextsOfTheirOwn(t *testing.T) {
	g := gather.New(10)
	l := laid([]byte("the same text, told again and again, is 47 long"), 1)
	var all [][]byte
	for range 5 {
		g.Take(0, l[0], false)
		text, _, _ := g.Take(0, l[1], true)
		all = append(all, text)
	}
	for i, text := range all {
		if string(text) != "the same text, told again and again, is 47 long" {
			t.Errorf("the text %d: %q", i, text)
		}
		scribble(text)
	}
}

// R5: two gatherers know nothing of each other, and the same steps answer the same; Parts and Lost change nothing.
func TestTwo(t *testing.T) {
	n := noise(9)
	a, b, c := gather.New(10), gather.New(10), gather.New(10)
	l := laid(n.text(300), 2)
	for at := range 500 {
		i := n.below(len(l))
		s := take(at/8, l[i], i == len(l)-1)
		if n.below(4) == 0 {
			s = tick(at / 8)
		}
		first := does(a, s)
		c.Take(0, part{byte(at)}, at%30 == 29)
		c.Tick(at % 7)
		for range at % 3 {
			b.Parts()
			b.Lost()
		}
		if second := does(b, s); first != second {
			t.Fatalf("%v: %s, and %s", s, first, second)
		}
	}
}
