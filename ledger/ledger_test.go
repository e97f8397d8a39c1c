package ledger_test

import (
	"math"
	"math/bits"
	"slices"
	"testing"

	"trunkline/api"
	"trunkline/ledger"
)

// ends are numbers at the edges of all that may be.
var ends = []int{math.MinInt, math.MinInt + 1, -1 << 32, -1, 0, 1, 2, 1 << 31, 1 << 32, api.MaxTime - 1, api.MaxTime, api.MaxTime + 1, math.MaxInt - 1, math.MaxInt}

// noise is a fixed row of numbers without order.
type noise uint64

// below is one from 0 on, of the number's highest bits, as its lowest ones come again soon.
func (n *noise) below(most int) int {
	*n = *n*6364136223846793005 + 1442695040888963407
	high, _ := bits.Mul64(uint64(*n), uint64(most))
	return int(high)
}

// size is a number up to MaxTime that has any number of bits alike often.
func (n *noise) size() int { return n.below(1 << n.below(61)) }

// entry is what is booked for a number.
type entry struct{ id, need int }

// words is a ledger by the chapter's words: a list of bookings, which is sorted and summed up each time it is asked. Its sums have no sign, so that they hold the room and the greatest need together.
type words struct {
	room uint64
	list []entry
}

func wordsOf(room int) *words {
	switch {
	case room < 0:
		room = 0
	case room > 1<<60:
		room = 1 << 60
	}
	return &words{room: uint64(room)}
}

func (w *words) at(id int) int {
	return slices.IndexFunc(w.list, func(e entry) bool { return e.id == id })
}

func (w *words) used() uint64 {
	sum := uint64(0)
	for _, e := range w.list {
		sum += uint64(e.need)
	}
	return sum
}

func (w *words) book(id, need int) api.Errno {
	if need < 0 {
		return api.ErrArg
	}
	if w.at(id) >= 0 {
		return api.ErrTwice
	}
	if w.used()+uint64(need) > w.room {
		return api.ErrFull
	}
	w.list = append(w.list, entry{id, need})
	return api.OK
}

func (w *words) change(id, need int) api.Errno {
	if need < 0 {
		return api.ErrArg
	}
	at := w.at(id)
	if at < 0 {
		return api.ErrNone
	}
	if w.used()+uint64(need) > w.room+uint64(w.list[at].need) {
		return api.ErrFull
	}
	w.list[at].need = need
	return api.OK
}

func (w *words) get(id int) (int, bool) {
	if at := w.at(id); at >= 0 {
		return w.list[at].need, true
	}
	return 0, false
}

func (w *words) free(id int) (int, bool) {
	need, there := w.get(id)
	if there {
		at := w.at(id)
		w.list = slices.Delete(w.list, at, at+1)
	}
	return need, there
}

func (w *words) all() []entry {
	list := slices.Clone(w.list)
	slices.SortFunc(list, func(a, b entry) int {
		if a.id < b.id {
			return -1
		}
		return 1
	})
	return list
}

// answer is what Get or Free tells.
type answer struct {
	need int
	ok   bool
}

func of(need int, ok bool) answer { return answer{need, ok} }

var none = answer{}

func told(l *ledger.Ledger) []entry {
	var list []entry
	for id, need := range l.All() {
		list = append(list, entry{id, need})
	}
	return list
}

// alike holds a ledger against the tests' own: all that it tells of its bookings, and of these.
func alike(t *testing.T, what any, l *ledger.Ledger, w *words, asked ...int) {
	t.Helper()
	if got, want := told(l), w.all(); !slices.Equal(got, want) {
		t.Fatalf("%v: All: %v, not %v", what, got, want)
	}
	used, left := l.Used(), l.Left()
	if used < 0 || left < 0 || uint64(used) != w.used() || uint64(used)+uint64(left) != w.room {
		t.Fatalf("%v: Used %d and Left %d, not %d of %d", what, used, left, w.used(), w.room)
	}
	for _, id := range asked {
		if got, want := of(l.Get(id)), of(w.get(id)); got != want {
			t.Fatalf("%v: Get(%d): %v, not %v", what, id, got, want)
		}
	}
}

func books(t *testing.T, l *ledger.Ledger, id, need int, want api.Errno) {
	t.Helper()
	if got := l.Book(id, need); got != want {
		t.Errorf("Book(%d, %d): %d, not %d", id, need, got, want)
	}
}

func changes(t *testing.T, l *ledger.Ledger, id, need int, want api.Errno) {
	t.Helper()
	if got := l.Change(id, need); got != want {
		t.Errorf("Change(%d, %d): %d, not %d", id, need, got, want)
	}
}

func gets(t *testing.T, l *ledger.Ledger, id int, want answer) {
	t.Helper()
	if got := of(l.Get(id)); got != want {
		t.Errorf("Get(%d): %v, not %v", id, got, want)
	}
}

func frees(t *testing.T, l *ledger.Ledger, id int, want answer) {
	t.Helper()
	if got := of(l.Free(id)); got != want {
		t.Errorf("Free(%d): %v, not %v", id, got, want)
	}
}

// holds asks for all that a ledger tells.
func holds(t *testing.T, l *ledger.Ledger, used, left int, want ...entry) {
	t.Helper()
	if l.Used() != used || l.Left() != left {
		t.Errorf("Used %d and Left %d, not %d and %d", l.Used(), l.Left(), used, left)
	}
	if got := told(l); !slices.Equal(got, want) {
		t.Errorf("All: %v, not %v", got, want)
	}
	for _, e := range want {
		gets(t, l, e.id, answer{e.need, true})
	}
}

// with is a ledger of this room in which these are booked.
func with(t *testing.T, room int, list ...entry) *ledger.Ledger {
	t.Helper()
	l := ledger.New(room)
	for _, e := range list {
		books(t, l, e.id, e.need, api.OK)
	}
	return l
}

// P18.1: the chapter's example.
func TestExample(t *testing.T) {
	l := ledger.New(10)
	books(t, l, 1, 7, api.OK)
	books(t, l, 2, 4, api.ErrFull)
	holds(t, l, 7, 3, entry{1, 7})
	changes(t, l, 1, 6, api.OK)
	books(t, l, 2, 4, api.OK)
	holds(t, l, 10, 0, entry{1, 6}, entry{2, 4})
}

// P18.1: room is held from 0 to MaxTime; a ledger that is new has no bookings, and just that room.
func TestRoom(t *testing.T) {
	for _, c := range []struct{ room, want int }{
		{math.MinInt, 0}, {-api.MaxTime, 0}, {-2, 0}, {-1, 0}, {0, 0}, {1, 1}, {2, 2}, {1000, 1000}, {1 << 32, 1 << 32},
		{1<<60 - 1, 1<<60 - 1}, {1 << 60, 1 << 60}, {1<<60 + 1, 1 << 60}, {1 << 61, 1 << 60}, {math.MaxInt, 1 << 60},
	} {
		l := ledger.New(c.room)
		holds(t, l, 0, c.want)
		books(t, l, 5, c.want+1, api.ErrFull)
		holds(t, l, 0, c.want)
		books(t, l, 5, c.want, api.OK)
		holds(t, l, c.want, 0, entry{5, c.want})
		books(t, l, 6, 1, api.ErrFull)
		books(t, l, 6, 0, api.OK)
		holds(t, l, c.want, 0, entry{5, c.want}, entry{6, 0})
		frees(t, l, 5, answer{c.want, true})
		holds(t, l, 0, c.want, entry{6, 0})
	}
}

// P18.1: Book of needs from below 0 to the greatest number, where something is left and where nothing is.
func TestBook(t *testing.T) {
	for _, c := range []struct {
		room, used, need int
		want             api.Errno
	}{
		{10, 4, math.MinInt, api.ErrArg}, {10, 4, -6, api.ErrArg}, {10, 4, -1, api.ErrArg},
		{10, 4, 0, api.OK}, {10, 4, 1, api.OK}, {10, 4, 5, api.OK}, {10, 4, 6, api.OK},
		{10, 4, 7, api.ErrFull}, {10, 4, 10, api.ErrFull}, {10, 4, api.MaxTime, api.ErrFull}, {10, 4, math.MaxInt - 3, api.ErrFull}, {10, 4, math.MaxInt, api.ErrFull},
		{10, 10, -1, api.ErrArg}, {10, 10, 0, api.OK}, {10, 10, 1, api.ErrFull}, {10, 10, math.MaxInt, api.ErrFull},
		{0, 0, -1, api.ErrArg}, {0, 0, 0, api.OK}, {0, 0, 1, api.ErrFull},
		{api.MaxTime, 1, api.MaxTime - 1, api.OK}, {api.MaxTime, 1, api.MaxTime, api.ErrFull}, {api.MaxTime, 1, math.MaxInt, api.ErrFull},
		{api.MaxTime, api.MaxTime, math.MaxInt, api.ErrFull}, {api.MaxTime, api.MaxTime, 0, api.OK},
	} {
		l := with(t, c.room, entry{1, c.used})
		books(t, l, 2, c.need, c.want)
		if c.want == api.OK {
			holds(t, l, c.used+c.need, c.room-c.used-c.need, entry{1, c.used}, entry{2, c.need})
		} else {
			holds(t, l, c.used, c.room-c.used, entry{1, c.used})
			gets(t, l, 2, none)
		}
	}
}

// P18.1: Book of a number for which something is booked, 0 among it, is ErrTwice, and it keeps what it has; freed, it can be booked again.
func TestTwice(t *testing.T) {
	for _, had := range []int{0, 1, 3, 5} {
		l := with(t, 5, entry{9, had})
		for _, need := range []int{0, 1, 5 - had, had} {
			books(t, l, 9, need, api.ErrTwice)
			holds(t, l, had, 5-had, entry{9, had})
		}
		frees(t, l, 9, answer{had, true})
		books(t, l, 9, 5, api.OK)
		books(t, l, 9, 0, api.ErrTwice)
		holds(t, l, 5, 0, entry{9, 5})
	}
}

// P18.1: Change to less, to the same, to more, to just what is left and what is booked for it, and to one more.
func TestChange(t *testing.T) {
	for _, c := range []struct {
		room, others, had, need int
		want                    api.Errno
	}{
		{10, 4, 3, math.MinInt, api.ErrArg}, {10, 4, 3, -3, api.ErrArg}, {10, 4, 3, -1, api.ErrArg},
		{10, 4, 3, 0, api.OK}, {10, 4, 3, 2, api.OK}, {10, 4, 3, 3, api.OK}, {10, 4, 3, 4, api.OK}, {10, 4, 3, 6, api.OK},
		{10, 4, 3, 7, api.ErrFull}, {10, 4, 3, 10, api.ErrFull}, {10, 4, 3, math.MaxInt, api.ErrFull},
		{10, 4, 0, 0, api.OK}, {10, 4, 0, 6, api.OK}, {10, 4, 0, 7, api.ErrFull},
		{10, 4, 6, 6, api.OK}, {10, 4, 6, 7, api.ErrFull}, {10, 4, 6, 5, api.OK}, {10, 4, 6, 0, api.OK},
		{10, 0, 10, 10, api.OK}, {10, 0, 10, 11, api.ErrFull}, {10, 10, 0, 0, api.OK}, {10, 10, 0, 1, api.ErrFull}, {10, 10, 0, -1, api.ErrArg},
		{0, 0, 0, 0, api.OK}, {0, 0, 0, 1, api.ErrFull},
		{api.MaxTime, 1, api.MaxTime - 1, api.MaxTime - 1, api.OK}, {api.MaxTime, 1, api.MaxTime - 1, api.MaxTime, api.ErrFull},
		{api.MaxTime, 1, api.MaxTime - 1, math.MaxInt, api.ErrFull}, {api.MaxTime, 1, 0, api.MaxTime - 1, api.OK}, {api.MaxTime, 0, api.MaxTime, 0, api.OK},
	} {
		l := with(t, c.room, entry{1, c.others}, entry{2, c.had})
		changes(t, l, 2, c.need, c.want)
		now := c.had
		if c.want == api.OK {
			now = c.need
		}
		holds(t, l, c.others+now, c.room-c.others-now, entry{1, c.others}, entry{2, now})
	}
}

// P18.1: Change of a number for which nothing is booked, never or no more, is ErrNone, and books nothing; of one that is booked it changes nothing else.
func TestChangeOfNone(t *testing.T) {
	l := with(t, 10, entry{1, 4}, entry{3, 0})
	for _, id := range append([]int{-3, 4, 5, 1 << 33}, math.MinInt, math.MaxInt) {
		for _, need := range []int{0, 1, 6, 7, math.MaxInt} {
			changes(t, l, id, need, api.ErrNone)
			gets(t, l, id, none)
		}
	}
	holds(t, l, 4, 6, entry{1, 4}, entry{3, 0})
	frees(t, l, 3, answer{0, true})
	changes(t, l, 3, 0, api.ErrNone)
	changes(t, l, 1, 10, api.OK)
	holds(t, l, 10, 0, entry{1, 10})
}

// P18.1, R1: of several errors the first one is told: a need below 0, then what is booked or isn't, then the room.
func TestFirstError(t *testing.T) {
	for _, room := range []int{0, 5} {
		l := with(t, room, entry{1, room})
		for _, c := range []struct {
			id, need     int
			book, change api.Errno
		}{
			{1, -1, api.ErrArg, api.ErrArg}, {1, math.MinInt, api.ErrArg, api.ErrArg},
			{2, -1, api.ErrArg, api.ErrArg}, {2, math.MinInt, api.ErrArg, api.ErrArg},
			{1, room + 1, api.ErrTwice, api.ErrFull}, {1, math.MaxInt, api.ErrTwice, api.ErrFull},
			{2, 1, api.ErrFull, api.ErrNone}, {2, math.MaxInt, api.ErrFull, api.ErrNone},
		} {
			books(t, l, c.id, c.need, c.book)
			holds(t, l, room, 0, entry{1, room})
			changes(t, l, c.id, c.need, c.change)
			holds(t, l, room, 0, entry{1, room})
			gets(t, l, 2, none)
		}
	}
}

// P18.1, P18.2: each pair of edges as number and as need; what was answered by an error has changed nothing.
func TestEdges(t *testing.T) {
	for _, room := range ends {
		for _, first := range ends {
			for _, second := range ends {
				l, w := ledger.New(room), wordsOf(room)
				for _, id := range []int{first, second} {
					for _, need := range ends {
						if got, want := l.Book(id, need), w.book(id, need); got != want {
							t.Fatalf("room %d: Book(%d, %d): %d, not %d", room, id, need, got, want)
						}
						if got, want := l.Change(id, need/2), w.change(id, need/2); got != want {
							t.Fatalf("room %d: Change(%d, %d): %d, not %d", room, id, need/2, got, want)
						}
						alike(t, room, l, w, first, second, 3)
					}
				}
			}
		}
	}
}

// P18.2: Get and Free of what is booked and of what isn't; Free frees once, and just that.
func TestGetAndFree(t *testing.T) {
	l := with(t, 20, entry{7, 5}, entry{-7, 0}, entry{0, 3})
	for _, id := range []int{1, -1, 5, 3, 6, 8, -6, -8, 7 + 1<<32, math.MinInt, math.MaxInt} {
		gets(t, l, id, none)
		frees(t, l, id, none)
	}
	holds(t, l, 8, 12, entry{-7, 0}, entry{0, 3}, entry{7, 5})
	frees(t, l, -7, answer{0, true})
	gets(t, l, -7, none)
	frees(t, l, -7, none)
	holds(t, l, 8, 12, entry{0, 3}, entry{7, 5})
	frees(t, l, 7, answer{5, true})
	frees(t, l, 7, none)
	holds(t, l, 3, 17, entry{0, 3})
	changes(t, l, 0, 20, api.OK)
	frees(t, l, 0, answer{20, true})
	frees(t, l, 0, none)
	holds(t, l, 0, 20)
}

// P18.2: asking changes nothing, however often.
func TestAskedAgain(t *testing.T) {
	l := with(t, 20, entry{2, 5}, entry{1, 6})
	for range 3 {
		holds(t, l, 11, 9, entry{1, 6}, entry{2, 5})
		gets(t, l, 3, none)
		frees(t, l, 3, none)
	}
}

// P18.2: All of no bookings, of one and of many, rising, whatever their order was, with numbers below 0 and at the edges.
func TestAll(t *testing.T) {
	holds(t, ledger.New(9), 0, 9)
	holds(t, with(t, 9, entry{4, 2}), 2, 7, entry{4, 2})
	rising := []entry{
		{math.MinInt, 9}, {math.MinInt + 1, 8}, {-1 << 40, 0}, {-10, 7}, {-9, 1}, {-1, 6}, {0, 5}, {1, 4}, {2, 0}, {9, 3}, {10, 2}, {1 << 40, 1}, {math.MaxInt - 1, 0}, {math.MaxInt, 10},
	}
	n := noise(1)
	for range 50 {
		list := slices.Clone(rising)
		for i := range list {
			j := i + n.below(len(list)-i)
			list[i], list[j] = list[j], list[i]
		}
		holds(t, with(t, 100, list...), 56, 44, rising...)
	}
	l := ledger.New(1 << 20)
	var many []entry
	for id := 5000; id > -5000; id-- {
		books(t, l, id, id&7, api.OK)
		many = append(many, entry{id, id & 7})
	}
	slices.Reverse(many)
	holds(t, l, 35000, 1<<20-35000, many...)
}

// P18.2: All can be left early, wherever that is, and the next time it tells all again.
func TestAllLeftEarly(t *testing.T) {
	l := with(t, 99, entry{3, 30}, entry{1, 10}, entry{4, 40}, entry{2, 0}, entry{-5, 1})
	all := l.All()
	for leave := range 7 {
		var got []int
		for id := range all {
			if len(got) == leave {
				break
			}
			got = append(got, id)
		}
		if want := []int{-5, 1, 2, 3, 4}[:min(leave, 5)]; !slices.Equal(got, want) {
			t.Errorf("left behind %d: %v", leave, got)
		}
	}
	many := 0
	all(func(int, int) bool { many++; return false })
	if many != 1 {
		t.Errorf("told %d times, though the first answer was false", many)
	}
	holds(t, l, 81, 18, entry{-5, 1}, entry{1, 10}, entry{2, 0}, entry{3, 30}, entry{4, 40})
}

// P18.2: what is booked, changed and freed while bookings are told plays no part, whichever number it is, and wherever it is done.
func TestChangedMeanwhile(t *testing.T) {
	had := []entry{{1, 10}, {3, 30}, {5, 0}, {7, 20}}
	does := []struct {
		does func(l *ledger.Ledger, id int)
		of   []int
	}{
		{func(l *ledger.Ledger, id int) { frees(t, l, id, answer{had[id/2].need, true}) }, []int{1, 3, 5, 7}},
		{func(l *ledger.Ledger, id int) { changes(t, l, id, 15, api.OK) }, []int{1, 3, 5, 7}},
		{func(l *ledger.Ledger, id int) { books(t, l, id, 8, api.OK) }, []int{0, 2, 4, 6, 8}},
		{func(l *ledger.Ledger, id int) { l.Free(id); books(t, l, id, 9, api.OK) }, []int{1, 3, 5, 7}},
	}
	for at := range had {
		for i, d := range does {
			for _, id := range d.of {
				l := with(t, 100, had...)
				var got []entry
				for id1, need := range l.All() {
					if len(got) == at {
						d.does(l, id)
					}
					got = append(got, entry{id1, need})
				}
				if !slices.Equal(got, had) {
					t.Errorf("%d at %d, of %d: %v", i, at, id, got)
				}
				if slices.Equal(told(l), had) {
					t.Errorf("%d at %d, of %d: nothing was done", i, at, id)
				}
			}
		}
	}
}

// P18.2: a ledger that is emptied, or filled, while it is told, and one that is told while it is told.
func TestEmptiedMeanwhile(t *testing.T) {
	l := with(t, 100, entry{1, 10}, entry{2, 20}, entry{3, 0})
	rounds := 0
	for id, need := range l.All() {
		frees(t, l, id, answer{need, true})
		rounds++
	}
	holds(t, l, 0, 100)
	if rounds != 3 {
		t.Errorf("emptied in %d rounds", rounds)
	}

	l = with(t, 100, entry{1, 1}, entry{50, 1})
	rounds = 0
	for range l.All() {
		for id := range 100 {
			l.Book(1000*rounds+id, 1)
		}
		rounds++
	}
	if rounds != 2 || l.Left() != 0 {
		t.Errorf("filled in %d rounds, with %d left", rounds, l.Left())
	}

	l = with(t, 100, entry{1, 1}, entry{2, 2}, entry{3, 3})
	var got []int
	for _, outer := range l.All() {
		for id, inner := range l.All() {
			got = append(got, 10*outer+inner)
			l.Free(id)
		}
		books(t, l, 9, 9, api.OK)
		frees(t, l, 9, answer{9, true})
	}
	if !slices.Equal(got, []int{11, 12, 13}) {
		t.Errorf("told while told: %v", got)
	}
}

// P18.2: the same iterator twice, one behind the other, and one within another; each is on its own.
func TestToldWithin(t *testing.T) {
	l := with(t, 100, entry{5, 50}, entry{-5, 5}, entry{0, 0})
	all := l.All()
	want := []int{-5, -5, 0, 5, 0, -5, 0, 5, 5, -5, 0, 5}
	for range 2 {
		var got []int
		for outer := range all {
			got = append(got, outer)
			for inner := range all {
				got = append(got, inner)
			}
		}
		if !slices.Equal(got, want) {
			t.Errorf("%v, not %v", got, want)
		}
	}
}

// P18.2: an iterator tells what there is when it is begun to be gone through, each time anew.
func TestBegunAnew(t *testing.T) {
	l := with(t, 100, entry{4, 1})
	all := l.All()
	tellsNow := func(want ...entry) {
		t.Helper()
		var got []entry
		for id, need := range all {
			got = append(got, entry{id, need})
		}
		if !slices.Equal(got, want) {
			t.Errorf("%v, not %v", got, want)
		}
	}
	tellsNow(entry{4, 1})
	books(t, l, 3, 2, api.OK)
	tellsNow(entry{3, 2}, entry{4, 1})
	changes(t, l, 4, 7, api.OK)
	tellsNow(entry{3, 2}, entry{4, 7})
	frees(t, l, 3, answer{2, true})
	tellsNow(entry{4, 7})
	frees(t, l, 4, answer{7, true})
	tellsNow()
}

// P18.2: of a nil Ledger Book and Change are ErrFull, whatever they are given, all else none.
func TestNil(t *testing.T) {
	var l *ledger.Ledger
	for _, id := range ends {
		for _, need := range ends {
			books(t, l, id, need, api.ErrFull)
			changes(t, l, id, need, api.ErrFull)
		}
		gets(t, l, id, none)
		frees(t, l, id, none)
	}
	for range 2 {
		holds(t, l, 0, 0)
	}
	l.All()(func(int, int) bool { t.Error("told by a nil Ledger"); return true })
}

// R1: a Ledger that New didn't make, of which the chapter says nothing, has no room, and no call of it panics.
func TestNotMadeByNew(t *testing.T) {
	fresh := func() *ledger.Ledger { return &ledger.Ledger{} }
	holds(t, fresh(), 0, 0)
	frees(t, fresh(), 1, none)
	changes(t, fresh(), 1, 0, api.ErrNone)
	books(t, fresh(), 1, 1, api.ErrFull)
	l := fresh()
	books(t, l, 1, 0, api.OK)
	books(t, l, 2, 1, api.ErrFull)
	holds(t, l, 0, 0, entry{1, 0})
	frees(t, l, 1, answer{0, true})
	holds(t, l, 0, 0)
}

// P18.3: what is booked, and freed, leaves all as it was, in whatever order it is freed, and whatever it was changed to meanwhile.
func TestBookedAndFreed(t *testing.T) {
	n := noise(3)
	for range 300 {
		room := 2000 + n.below(500)
		l, w := ledger.New(room), wordsOf(room)
		for id := range 5 {
			need := n.below(200)
			books(t, l, id, need, w.book(id, need))
		}
		ids := []int{10, 11, 12, 13, 14, 15}
		for _, id := range ids {
			books(t, l, id, n.below(160), api.OK)
		}
		for range 20 {
			l.Change(ids[n.below(len(ids))], n.below(800))
		}
		for i := range ids {
			j := i + n.below(len(ids)-i)
			ids[i], ids[j] = ids[j], ids[i]
			if _, ok := l.Free(ids[i]); !ok {
				t.Errorf("%d wasn't booked", ids[i])
			}
		}
		alike(t, room, l, w, ids...)
		books(t, l, 99, l.Left()+1, api.ErrFull)
		books(t, l, 99, l.Left(), api.OK)
		books(t, l, 98, 1, api.ErrFull)
	}
}

// P18.3, R5: two ledgers don't touch each other.
func TestOfTheirOwn(t *testing.T) {
	a, b := ledger.New(10), ledger.New(10)
	books(t, a, 1, 7, api.OK)
	holds(t, b, 0, 10)
	books(t, b, 1, 9, api.OK)
	books(t, b, 2, 1, api.OK)
	holds(t, a, 7, 3, entry{1, 7})
	changes(t, b, 1, 3, api.OK)
	frees(t, a, 1, answer{7, true})
	holds(t, b, 4, 6, entry{1, 3}, entry{2, 1})
	for id := range b.All() {
		frees(t, a, id, none)
	}
	holds(t, b, 4, 6, entry{1, 3}, entry{2, 1})
}

// do has a ledger and the tests' own do the same, and holds their answers against each other.
func do(t *testing.T, what any, l *ledger.Ledger, w *words, act, id, need int) {
	t.Helper()
	switch act {
	case 0:
		if got, want := l.Book(id, need), w.book(id, need); got != want {
			t.Fatalf("%v: Book(%d, %d): %d, not %d", what, id, need, got, want)
		}
	case 1:
		if got, want := l.Change(id, need), w.change(id, need); got != want {
			t.Fatalf("%v: Change(%d, %d): %d, not %d", what, id, need, got, want)
		}
	default:
		if got, want := of(l.Free(id)), of(w.free(id)); got != want {
			t.Fatalf("%v: Free(%d): %v, not %v", what, id, got, want)
		}
	}
}

// P18.1 to P18.3: all rows of up to four Books, Changes and Frees of two numbers with needs from -1 to 3, in ledgers with room for none to four; all is asked behind each.
func TestAllShortRows(t *testing.T) {
	// An act of 0 is none, so that the shorter rows are among these.
	const acts = 1 + 2*2*5 + 2
	for room := range 5 {
		for row := range acts * acts * acts * acts {
			l, w := ledger.New(room), wordsOf(room)
			for left := row; left > 0; left /= acts {
				switch act := left%acts - 1; {
				case act >= 20:
					do(t, row, l, w, 2, act-20, 0)
				case act >= 0:
					do(t, row, l, w, act%2, act/2%2, act/4-1)
				}
			}
			alike(t, row, l, w, 0, 1)
		}
	}
}

// P18.1 to P18.3: long rows over few numbers and over many, with needs small and great, so that ledgers are filled, and emptied again.
func TestLongRows(t *testing.T) {
	n := noise(2)
	for range 300 {
		room := n.size()
		l, w := ledger.New(room), wordsOf(room)
		ids := 1 + n.below(40)
		for range 400 {
			id := n.below(ids) - ids/2
			need := n.below(1+room/(1+n.below(ids))) - n.below(2)
			if n.below(10) == 0 {
				need = int(w.room-w.used()) + n.below(3) - 1
			}
			if n.below(50) == 0 {
				need = ends[n.below(len(ends))]
			}
			do(t, room, l, w, n.below(3), id, need)
			alike(t, room, l, w, id, -id, id+1)
		}
	}
}

// R5: whatever the order in which it is booked, and whatever was freed between, the same bookings are told alike.
func TestWhateverTheOrder(t *testing.T) {
	n := noise(4)
	for range 200 {
		l, m := ledger.New(1<<30), ledger.New(1<<30)
		ids := []int{4, -1, 8, 0, 100, 7, -50, 3}
		for i, id := range ids {
			books(t, l, id, i, api.OK)
		}
		for i := range ids {
			j := i + n.below(len(ids)-i)
			ids[i], ids[j] = ids[j], ids[i]
			books(t, m, ids[i], 77, api.OK)
			if n.below(2) == 0 {
				frees(t, m, ids[i], answer{77, true})
				books(t, m, ids[i], 78, api.OK)
			}
		}
		for id, need := range l.All() {
			changes(t, m, id, need, api.OK)
		}
		if got, want := told(m), told(l); !slices.Equal(got, want) || m.Used() != l.Used() {
			t.Errorf("%v, not %v", got, want)
		}
	}
}
