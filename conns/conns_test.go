package conns_test

import (
	"fmt"
	"math"
	"slices"
	"testing"

	"trunkline/api"
	"trunkline/conns"
)

// The greatest port, path and channel that a key can have, as the chapter says them.
const (
	port = api.MaxPorts - 1
	path = 4095
	last = 65535
)

// edges are the numbers at both ends of what a key's can be, one beyond each, the least and the greatest ones of all, and some whose low bits are a number that can be.
var edges = []int{math.MinInt, math.MinInt + 1, -last - 1, -1, 0, 1, port, port + 1, path, path + 1, last, last + 1, 1 << 32, math.MaxInt - 1, math.MaxInt}

// noise makes numbers by a fixed rule, so that every run has the same ones.
type noise uint64

func (n *noise) below(most int) int {
	*n = *n*6364136223846793005 + 1442695040888963407
	return int((uint64(*n) >> 32) % uint64(most))
}

// entry is a key with its number.
type entry struct {
	key    api.Key
	number int
}

// words is a table by the chapter's words: a list of entries, as they were put, in which all is looked for one by one.
type words struct {
	room int
	list []entry
}

func wordsOf(room int) *words {
	switch {
	case room < 0:
		room = 0
	case room > 64:
		room = 64
	}
	return &words{room: room}
}

func canBe(k api.Key) bool {
	return k.Port >= 0 && k.Port <= port && k.Vpi >= 0 && k.Vpi <= path && k.Vci >= 0 && k.Vci <= last
}

func ahead(a, b api.Key) bool {
	if a.Port != b.Port {
		return a.Port < b.Port
	}
	if a.Vpi != b.Vpi {
		return a.Vpi < b.Vpi
	}
	return a.Vci < b.Vci
}

func (w *words) at(k api.Key) int {
	return slices.IndexFunc(w.list, func(x entry) bool { return x.key == k })
}

func (w *words) put(k api.Key, n int) api.Errno {
	switch {
	case !canBe(k):
		return api.ErrArg
	case w.at(k) >= 0:
		return api.ErrTwice
	case len(w.list) >= w.room:
		return api.ErrFull
	}
	w.list = append(w.list, entry{k, n})
	return api.OK
}

func (w *words) get(k api.Key) (int, bool) {
	if i := w.at(k); i >= 0 {
		return w.list[i].number, true
	}
	return 0, false
}

func (w *words) drop(k api.Key) (int, bool) {
	n, ok := w.get(k)
	if ok {
		w.list = slices.Delete(w.list, w.at(k), w.at(k)+1)
	}
	return n, ok
}

// all is the entries in order: again and again the one that no other one left is ahead of.
func (w *words) all() []entry {
	left := slices.Clone(w.list)
	var order []entry
	for len(left) > 0 {
		first := 0
		for i, x := range left {
			if ahead(x.key, left[first].key) {
				first = i
			}
		}
		order = append(order, left[first])
		left = slices.Delete(left, first, first+1)
	}
	return order
}

func (w *words) free(port, vpi, from int) (int, bool) {
	if from < 0 {
		from = 0
	}
	for v := from; v <= last; v++ {
		k := api.Key{Port: port, Vpi: vpi, Vci: v}
		if canBe(k) && w.at(k) < 0 {
			return v, true
		}
	}
	return 0, false
}

// answer is what Get, Drop or Free tells.
type answer struct {
	n  int
	ok bool
}

func of(n int, ok bool) answer { return answer{n, ok} }

var none = answer{}

func told(x *conns.Table) []entry {
	var list []entry
	for k, n := range x.All() {
		list = append(list, entry{k, n})
	}
	return list
}

// alike holds a table against the tests' own: all that it tells of its keys, and of these.
func alike(t *testing.T, what any, x *conns.Table, w *words, asked ...api.Key) {
	t.Helper()
	if got, want := told(x), w.all(); !slices.Equal(got, want) {
		t.Fatalf("%v: All: %v, not %v", what, got, want)
	}
	if got, want := x.Len(), len(w.list); got != want {
		t.Fatalf("%v: Len: %d, not %d", what, got, want)
	}
	for _, k := range asked {
		if got, want := of(x.Get(k)), of(w.get(k)); got != want {
			t.Fatalf("%v: Get(%v): %v, not %v", what, k, got, want)
		}
	}
}

func puts(t *testing.T, x *conns.Table, k api.Key, n int, want api.Errno) {
	t.Helper()
	if got := x.Put(k, n); got != want {
		t.Errorf("Put(%v, %d): %d, not %d", k, n, got, want)
	}
}

func gets(t *testing.T, x *conns.Table, k api.Key, want answer) {
	t.Helper()
	if got := of(x.Get(k)); got != want {
		t.Errorf("Get(%v): %v, not %v", k, got, want)
	}
}

func drops(t *testing.T, x *conns.Table, k api.Key, want answer) {
	t.Helper()
	if got := of(x.Drop(k)); got != want {
		t.Errorf("Drop(%v): %v, not %v", k, got, want)
	}
}

func frees(t *testing.T, x *conns.Table, port, vpi, from int, want answer) {
	t.Helper()
	if got := of(x.Free(port, vpi, from)); got != want {
		t.Errorf("Free(%d, %d, %d): %v, not %v", port, vpi, from, got, want)
	}
}

func tells(t *testing.T, x *conns.Table, want ...entry) {
	t.Helper()
	if got := told(x); !slices.Equal(got, want) {
		t.Errorf("All: %v, not %v", got, want)
	}
	if got := x.Len(); got != len(want) {
		t.Errorf("Len: %d, not %d", got, len(want))
	}
}

// channel is a key of one port and one path.
func channel(v int) api.Key { return api.Key{Port: 2, Vpi: 3, Vci: v} }

// with is a table with room for all there may be, in which these channels are, each with its own number.
func with(t *testing.T, channels ...int) *conns.Table {
	t.Helper()
	x := conns.New(api.MaxConns)
	for _, v := range channels {
		puts(t, x, channel(v), v, api.OK)
	}
	return x
}

// P9.1, P9.2: the chapter's example.
func TestExample(t *testing.T) {
	x := conns.New(2)
	one, other := api.Key{Port: 1, Vpi: 0, Vci: 32}, api.Key{Port: 0, Vpi: 9, Vci: 40}
	puts(t, x, one, 7, api.OK)
	puts(t, x, other, 8, api.OK)
	tells(t, x, entry{other, 8}, entry{one, 7})
}

// P9.1: which keys can be, by all edges of each of the three; Put is ErrArg for just those that can't, and they play no part.
func TestWhichCanBe(t *testing.T) {
	for _, p := range edges {
		for _, i := range edges {
			for _, c := range edges {
				k := api.Key{Port: p, Vpi: i, Vci: c}
				want := canBe(k)
				if got := conns.Right(k); got != want {
					t.Errorf("Right(%v): %t", k, got)
				}
				x := conns.New(1)
				if want {
					puts(t, x, k, 5, api.OK)
					tells(t, x, entry{k, 5})
					gets(t, x, k, answer{5, true})
					continue
				}
				puts(t, x, k, 5, api.ErrArg)
				gets(t, x, k, none)
				drops(t, x, k, none)
				tells(t, x)
			}
		}
	}
}

// P9.1: the edges one by one, as the chapter says them.
func TestEdgesOfKeys(t *testing.T) {
	for _, k := range []api.Key{{}, {Port: 7}, {Vpi: 4095}, {Vci: 65535}, {Port: 7, Vpi: 4095, Vci: 65535}} {
		if !conns.Right(k) {
			t.Errorf("%v can be", k)
		}
	}
	for _, k := range []api.Key{{Port: -1}, {Port: 8}, {Vpi: -1}, {Vpi: 4096}, {Vci: -1}, {Vci: 65536}} {
		if conns.Right(k) {
			t.Errorf("%v can't be", k)
		}
	}
}

// P9.1: Port goes ahead of Vpi, and that of Vci; keys that differ by one alone; none is ahead of itself.
func TestBefore(t *testing.T) {
	order := []api.Key{{}, {Vci: 1}, {Vci: last}, {Vpi: 1}, {Vpi: 1, Vci: 1}, {Vpi: path, Vci: last}, {Port: 1}, {Port: 1, Vci: 1}, {Port: 1, Vpi: 1}, {Port: port, Vpi: path, Vci: last}}
	for i, a := range order {
		for j, b := range order {
			if got := conns.Before(a, b); got != (i < j) {
				t.Errorf("Before(%v, %v): %t", a, b, got)
			}
		}
	}
}

// P9.1, R1: Before of all keys of edges, of those that can't be, too.
func TestBeforeOfEdges(t *testing.T) {
	some := []int{math.MinInt, -1, 0, 1, last, math.MaxInt}
	var keys []api.Key
	for _, p := range some {
		for _, i := range some {
			for _, c := range some {
				keys = append(keys, api.Key{Port: p, Vpi: i, Vci: c})
			}
		}
	}
	for _, a := range keys {
		for _, b := range keys {
			if got, want := conns.Before(a, b), ahead(a, b); got != want {
				t.Fatalf("Before(%v, %v): %t", a, b, got)
			}
		}
	}
}

// P9.1: a key that is there is ErrTwice, and keeps its number; when it was dropped it can be put again.
func TestTwice(t *testing.T) {
	x := conns.New(2)
	k := channel(40)
	puts(t, x, k, 1, api.OK)
	puts(t, x, k, 2, api.ErrTwice)
	puts(t, x, k, 1, api.ErrTwice)
	tells(t, x, entry{k, 1})
	drops(t, x, k, answer{1, true})
	puts(t, x, k, 3, api.OK)
	tells(t, x, entry{k, 3})
	gets(t, x, k, answer{3, true})
}

// P9.1: of a table with so much room that many keys are put, and no more; room is held from 0 to MaxConns.
func TestRoom(t *testing.T) {
	for _, room := range []int{math.MinInt, -1, 0, 1, 2, 10, 63, 64, 65, 128, 1 << 32, math.MaxInt} {
		holds := min(max(room, 0), 64)
		x, w := conns.New(room), wordsOf(room)
		for i := range 70 {
			// not in order, so that a full table has had keys put in everywhere
			k, want := channel(i*29%70), api.OK
			if i >= holds {
				want = api.ErrFull
			}
			puts(t, x, k, i, want)
			w.put(k, i)
			if got := x.Len(); got != min(i+1, holds) {
				t.Fatalf("room %d: Len behind %d: %d", room, i+1, got)
			}
		}
		alike(t, room, x, w, channel(0), channel(69))
	}
}

// P9.1: of several errors the first one is told: a key that can't be is ErrArg, one that is there ErrTwice, though there is no room.
func TestFirstError(t *testing.T) {
	for _, room := range []int{0, 1, 3, 64} {
		x := conns.New(room)
		for v := range room {
			puts(t, x, channel(v), v, api.OK)
		}
		for v := range room {
			puts(t, x, channel(v), -1, api.ErrTwice)
		}
		puts(t, x, channel(room), -1, api.ErrFull)
		for _, k := range []api.Key{{Port: -1}, {Port: 8}, {Vpi: -1}, {Vpi: 4096}, {Vci: -1}, {Vci: 65536}, channel(math.MinInt), channel(math.MaxInt)} {
			puts(t, x, k, -1, api.ErrArg)
		}
		if x.Len() != room {
			t.Errorf("room %d: Len: %d", room, x.Len())
		}
		for v := range room {
			gets(t, x, channel(v), answer{v, true})
		}
	}
}

// P9.1: what is dropped gives its room back, once.
func TestRoomBack(t *testing.T) {
	x := conns.New(1)
	for v := range 200 {
		puts(t, x, channel(v), v, api.OK)
		puts(t, x, channel(v+1), v, api.ErrFull)
		drops(t, x, channel(v), answer{v, true})
		drops(t, x, channel(v), none)
	}
	puts(t, x, channel(3), 3, api.OK)
	puts(t, x, channel(4), 4, api.ErrFull)
}

// P9.2: any number is there as it was put, 0 and those below it, too; it isn't told but with its key.
func TestNumbers(t *testing.T) {
	x := conns.New(api.MaxConns)
	for i, n := range edges {
		puts(t, x, channel(i), n, api.OK)
	}
	for i, n := range edges {
		gets(t, x, channel(i), answer{n, true})
	}
	i := 0
	for k, n := range x.All() {
		if k != channel(i) || n != edges[i] {
			t.Errorf("All: %v, %d; not %v, %d", k, n, channel(i), edges[i])
		}
		i++
	}
	for i, n := range edges {
		drops(t, x, channel(i), answer{n, true})
		drops(t, x, channel(i), none)
		gets(t, x, channel(i), none)
	}
}

// P9.2: of a key that isn't there, though ones that differ from it by one of the three are, none is told, and nothing dropped.
func TestNotThere(t *testing.T) {
	x := conns.New(api.MaxConns)
	k := api.Key{Port: 3, Vpi: 30, Vci: 300}
	near := []api.Key{{Port: 2, Vpi: 30, Vci: 300}, {Port: 3, Vpi: 29, Vci: 300}, {Port: 3, Vpi: 30, Vci: 299}, {Port: 3, Vpi: 30, Vci: 301}, {Port: 3, Vpi: 31, Vci: 300}, {Port: 4, Vpi: 30, Vci: 300}}
	for i, n := range near {
		puts(t, x, n, i, api.OK)
	}
	gets(t, x, k, none)
	drops(t, x, k, none)
	if x.Len() != len(near) {
		t.Errorf("Len: %d", x.Len())
	}
	puts(t, x, k, 9, api.OK)
	for i, n := range near {
		gets(t, x, n, answer{i, true})
	}
	drops(t, x, k, answer{9, true})
	for i, n := range near {
		gets(t, x, n, answer{i, true})
	}
}

// P9.2: whichever key is dropped, all others are there still, of a full table, too.
func TestBehindDropped(t *testing.T) {
	for _, many := range []int{1, 2, 3, 17, 64} {
		for gone := range many {
			x, w := conns.New(many), wordsOf(many)
			var keys []api.Key
			for i := range many {
				k := api.Key{Port: i * 5 % 8, Vpi: i % 3, Vci: i * 37 % 64}
				puts(t, x, k, i, api.OK)
				w.put(k, i)
				keys = append(keys, k)
			}
			drops(t, x, keys[gone], answer{gone, true})
			w.drop(keys[gone])
			alike(t, fmt.Sprintf("%d without the one put as %d", many, gone), x, w, keys...)
			for i, k := range keys {
				if i != gone {
					puts(t, x, k, -1, api.ErrTwice)
				}
			}
			puts(t, x, keys[gone], -1, api.OK)
		}
	}
}

// P9.2: All of a table without keys, of one that has been emptied, and of one that New didn't make.
func TestAllOfNone(t *testing.T) {
	tells(t, conns.New(0))
	tells(t, conns.New(64))
	x := with(t, 5, 4)
	drops(t, x, channel(4), answer{4, true})
	drops(t, x, channel(5), answer{5, true})
	tells(t, x)
	var y conns.Table
	tells(t, &y)
}

// P9.2: All can be left early, wherever that is, and the next time it tells all again.
func TestAllLeftEarly(t *testing.T) {
	x := with(t, 3, 1, 4, 2, 0)
	all := x.All()
	for leave := range 6 {
		var got []int
		for k, n := range all {
			if len(got) == leave {
				break
			}
			if k != channel(n) {
				t.Errorf("%v with %d", k, n)
			}
			got = append(got, n)
		}
		if want := []int{0, 1, 2, 3, 4}[:min(leave, 5)]; !slices.Equal(got, want) {
			t.Errorf("left behind %d: %v", leave, got)
		}
	}
	many := 0
	all(func(api.Key, int) bool { many++; return false })
	if many != 1 {
		t.Errorf("told %d times, though the first answer was false", many)
	}
}

// P9.2: what is put and dropped while keys are told plays no part, whichever key it is, and wherever it is done.
func TestChangedMeanwhile(t *testing.T) {
	for at := range 5 {
		for v := range 11 {
			x := with(t, 1, 3, 5, 7, 9)
			var got []int
			for k, n := range x.All() {
				if len(got) == at {
					if x.Put(channel(v), 100) == api.ErrTwice {
						x.Drop(channel(v))
						puts(t, x, channel(v), 200, api.OK)
						x.Drop(channel(v))
					}
				}
				if k != channel(n) {
					t.Errorf("%d at %d: %v with %d", v, at, k, n)
				}
				got = append(got, n)
			}
			if !slices.Equal(got, []int{1, 3, 5, 7, 9}) {
				t.Errorf("%d at %d: %v", v, at, got)
			}
			if _, there := x.Get(channel(v)); there != (v%2 == 0) {
				t.Errorf("%d at %d: there: %t", v, at, there)
			}
		}
	}
}

// P9.2: a table that is emptied, or filled, while it is told; and one that is told while it is told.
func TestEmptiedMeanwhile(t *testing.T) {
	x := with(t, 1, 2, 3)
	rounds := 0
	for k, n := range x.All() {
		drops(t, x, k, answer{n, true})
		rounds++
	}
	tells(t, x)
	if rounds != 3 {
		t.Errorf("emptied in %d rounds", rounds)
	}

	x = with(t, 10, 20)
	rounds = 0
	for range x.All() {
		for v := 1; x.Put(channel(100*rounds+v), v) != api.ErrFull; v++ {
		}
		rounds++
	}
	if rounds != 2 || x.Len() != 64 {
		t.Errorf("filled in %d rounds, with %d keys", rounds, x.Len())
	}

	x = with(t, 1, 2, 3)
	var got []int
	for _, n := range x.All() {
		for k, m := range x.All() {
			got = append(got, 10*n+m)
			x.Drop(k)
		}
	}
	if !slices.Equal(got, []int{11, 12, 13}) {
		t.Errorf("told while told: %v", got)
	}
}

// P9.2: an iterator tells what there is when it is begun to be gone through, each time anew.
func TestBegunAnew(t *testing.T) {
	x := with(t, 1)
	all := x.All()
	tellsNow := func(want ...int) {
		t.Helper()
		var got []int
		for _, n := range all {
			got = append(got, n)
		}
		if !slices.Equal(got, want) {
			t.Errorf("%v, not %v", got, want)
		}
	}
	tellsNow(1)
	puts(t, x, channel(2), 2, api.OK)
	tellsNow(1, 2)
	drops(t, x, channel(1), answer{1, true})
	tellsNow(2)
}

// P9.3: from a channel that is there, from one that isn't, behind several one behind the other, and from the ends.
func TestFree(t *testing.T) {
	x := with(t, 36, 33, 32, 34, 0, last-1, last)
	for from, want := range map[int]int{0: 1, 1: 1, 31: 31, 32: 35, 33: 35, 34: 35, 35: 35, 36: 37, 37: 37, last - 2: last - 2, -1: 1, math.MinInt: 1} {
		frees(t, x, 2, 3, from, answer{want, true})
	}
	for _, from := range []int{last - 1, last, last + 1, 1 << 32, math.MaxInt - 1, math.MaxInt} {
		frees(t, x, 2, 3, from, none)
	}
	drops(t, x, channel(last), answer{last, true})
	frees(t, x, 2, 3, last, answer{last, true})
	frees(t, x, 2, 3, last-1, answer{last, true})
	drops(t, x, channel(33), answer{33, true})
	frees(t, x, 2, 3, 32, answer{33, true})
	drops(t, x, channel(0), answer{0, true})
	frees(t, x, 2, 3, 0, answer{0, true})
	frees(t, x, 2, 3, math.MinInt, answer{0, true})
	if x.Len() != 4 {
		t.Errorf("Len: %d", x.Len())
	}
}

// P9.3: keys of another port or path don't stand in the way, whether they are ahead or behind.
func TestFreeOfOthers(t *testing.T) {
	x := conns.New(api.MaxConns)
	for i, k := range []api.Key{{Port: 2, Vpi: 2}, {Port: 2, Vpi: 4}, {Port: 1, Vpi: 3}, {Port: 3, Vpi: 3}, {Port: 3, Vpi: 2}, {Port: 1, Vpi: 4}} {
		k.Vci = 32 + i%2
		puts(t, x, k, 1, api.OK)
	}
	frees(t, x, 2, 3, 32, answer{32, true})
	frees(t, x, 2, 3, 33, answer{33, true})
	frees(t, x, 2, 2, 32, answer{33, true})
	frees(t, x, 2, 4, 32, answer{32, true})
	frees(t, x, 2, 4, 33, answer{34, true})
	puts(t, x, channel(32), 1, api.OK)
	frees(t, x, 2, 3, 32, answer{33, true})
	frees(t, x, 2, 3, 31, answer{31, true})
	frees(t, x, 0, 0, 32, answer{32, true})
	frees(t, x, port, path, 32, answer{32, true})
}

// P9.3: of a full table, all of whose keys stand one behind the other.
func TestFreeOfFull(t *testing.T) {
	for _, first := range []int{0, 32, last - 64, last - 63} {
		x := conns.New(api.MaxConns)
		for i := range 64 {
			puts(t, x, channel(first+i*27%64), i, api.OK)
		}
		want := answer{first + 64, true}
		if first+64 > last {
			want = none
		}
		for i := range 64 {
			frees(t, x, 2, 3, first+i, want)
		}
		puts(t, x, channel(200), 1, api.ErrFull)
	}
}

// P9.3: all edges as port, path and from: of ports and paths that can't be none is free, and there may be keys or none.
func TestFreeOfEdges(t *testing.T) {
	x, w := conns.New(api.MaxConns), wordsOf(api.MaxConns)
	y, nothing := conns.New(0), wordsOf(0)
	for _, p := range []int{0, 1, port} {
		for _, i := range []int{0, 1, path} {
			for _, c := range []int{0, 1, 7, 8, last - 1, last} {
				k := api.Key{Port: p, Vpi: i, Vci: c}
				puts(t, x, k, c, api.OK)
				w.put(k, c)
			}
		}
	}
	for _, p := range edges {
		for _, i := range edges {
			for _, from := range edges {
				frees(t, x, p, i, from, of(w.free(p, i, from)))
				frees(t, y, p, i, from, of(nothing.free(p, i, from)))
			}
		}
	}
	alike(t, "asked", x, w)
}

// P9.2: of a nil Table Put is ErrFull, of a key that can't be, too, all else none.
func TestNil(t *testing.T) {
	var x *conns.Table
	for _, v := range edges {
		for _, k := range []api.Key{{Vci: v}, {Vpi: v}, {Port: v}, {Port: v, Vpi: v, Vci: v}} {
			puts(t, x, k, v, api.ErrFull)
			gets(t, x, k, none)
			drops(t, x, k, none)
			frees(t, x, k.Port, k.Vpi, v, none)
		}
	}
	tells(t, x)
}

// R3: tables don't share their keys, nor does one that is copied.
func TestOfTheirOwn(t *testing.T) {
	x, y := with(t, 1, 2), with(t, 2, 3)
	z := *x
	drops(t, x, channel(2), answer{2, true})
	puts(t, y, channel(1), 9, api.OK)
	tells(t, x, entry{channel(1), 1})
	tells(t, y, entry{channel(1), 9}, entry{channel(2), 2}, entry{channel(3), 3})
	tells(t, &z, entry{channel(1), 1}, entry{channel(2), 2})
}

// do has both do one thing: of each key, in turn, Put, Drop, Get or Free.
func do(t *testing.T, x *conns.Table, w *words, k api.Key, what, n int) {
	t.Helper()
	switch what {
	case 0:
		puts(t, x, k, n, w.put(k, n))
	case 1:
		drops(t, x, k, of(w.drop(k)))
	case 2:
		gets(t, x, k, of(w.get(k)))
	case 3:
		frees(t, x, k.Port, k.Vpi, k.Vci, of(w.free(k.Port, k.Vpi, k.Vci)))
	}
}

// P9.1 to P9.3: all rows of six Puts and Drops of three keys, in tables with room for none to three; all is asked behind each.
func TestAllShortRows(t *testing.T) {
	keys := []api.Key{{Port: 1, Vpi: 0, Vci: 33}, {Port: 0, Vpi: 1, Vci: 32}, {Port: 1, Vpi: 0, Vci: 32}}
	const acts, many = 6, 6
	rows := 1
	for range many {
		rows *= acts
	}
	for room := range 4 {
		for row := range rows {
			x, w := conns.New(room), wordsOf(room)
			for i, left := 0, row; i < many; i, left = i+1, left/acts {
				act := left % acts
				do(t, x, w, keys[act/2], act%2, i+1)
				alike(t, []int{room, row, i}, x, w, keys...)
				frees(t, x, 1, 0, 32, of(w.free(1, 0, 32)))
			}
		}
	}
}

// P9.1 to P9.3: long rows over few keys and over many, some of which can't be, so that tables are filled, and emptied again.
func TestLongRows(t *testing.T) {
	n := noise(9)
	for _, room := range []int{0, 1, 5, 30, 63, 64, 99} {
		for _, spread := range []int{2, 4, 9, 400} {
			x, w := conns.New(room), wordsOf(room)
			for i := range 3000 {
				k := api.Key{Port: n.below(min(spread, 9)), Vpi: n.below(spread), Vci: n.below(spread)}
				if n.below(40) == 0 {
					k.Vci = edges[n.below(len(edges))]
				}
				// By turns more is put than dropped, and more dropped than put.
				what := n.below(4)
				if what < 2 && n.below(3) > 0 {
					what = i / 300 % 2
				}
				do(t, x, w, k, what, i)
				if i%17 == 0 {
					alike(t, []int{room, spread, i}, x, w, k)
				}
			}
		}
	}
}

// R5: what tables answer hangs on what they hold, not on the order in which it was put, nor on what was there ahead of it.
func TestWhateverTheOrder(t *testing.T) {
	n := noise(3)
	for range 200 {
		x, y := conns.New(20), conns.New(20)
		for i := range 20 {
			puts(t, x, channel(i*i), i, api.OK)
			puts(t, y, channel(400+n.below(100)*20+i), i, api.OK)
		}
		for k := range y.All() {
			y.Drop(k)
		}
		for y.Len() < 20 {
			i := n.below(20)
			y.Put(channel(i*i), i)
		}
		tells(t, y, told(x)...)
		for from := range 400 {
			frees(t, y, 2, 3, from, of(x.Free(2, 3, from)))
		}
	}
}
