package deheap

import (
	"math"
	"slices"
	"testing"

	"secateur/api"
	"secateur/key"
	"secateur/sample"
)

// P7.1 to P7.3; that the kinds tell the same is tested by all that a pair does.

func TestExample(t *testing.T) {
	one := func(bound int64, id int) key.Entry { return key.Entry{Key: key.Key{Bound: bound}, ID: id} }
	l := []key.Entry{one(1, 0), one(5, 1), one(3, 2), one(5, 3)}
	for k := range Kinds {
		h, e := Bulk(k, 4, l)
		if e != api.OK {
			t.Fatalf("Bulk of the kind %d: %d", k, e)
		}
		if gone := h.Drop(4); !slices.Equal(gone, []key.Entry{l[1], l[3]}) {
			t.Errorf("kind %d: Drop is %v", k, gone)
		}
		if gone := h.Evict(1); !slices.Equal(gone, []key.Entry{l[2]}) {
			t.Errorf("kind %d: Evict is %v", k, gone)
		}
		if left := h.Sorted(); !slices.Equal(left, []key.Entry{l[0]}) {
			t.Errorf("kind %d: Sorted is %v", k, left)
		}
	}
}

// TestMake: the kinds, capacities and lists that are refused, each just beside
// one that isn't, and which error is answered, where several apply.
func TestMake(t *testing.T) {
	const greatest = api.MaxNodes
	for _, x := range []struct {
		k       Kind
		most, n int
		e       api.Errno
	}{
		{MinMax, 5, 0, api.OK},
		{Interval, 5, 0, api.OK},
		{-1, 5, 0, api.ErrKind},
		{Kinds, 5, 0, api.ErrKind},
		{2, 5, 0, api.ErrKind},
		{math.MinInt, 5, 0, api.ErrKind},
		{math.MaxInt, 5, 0, api.ErrKind},

		{MinMax, 0, 0, api.ErrArg},
		{MinMax, 1, 0, api.OK},
		{MinMax, greatest, 0, api.OK},
		{MinMax, greatest + 1, 0, api.ErrArg},
		{Interval, 0, 0, api.ErrArg},
		{Interval, 1, 0, api.OK},
		{Interval, greatest, 0, api.OK},
		{Interval, greatest + 1, 0, api.ErrArg},
		{Interval, -1, 0, api.ErrArg},
		{MinMax, math.MinInt, 0, api.ErrArg},
		{MinMax, math.MaxInt, 0, api.ErrArg},

		{MinMax, 1, 1, api.OK},
		{MinMax, 1, 2, api.ErrFull},
		{MinMax, 4, 3, api.OK},
		{MinMax, 4, 4, api.OK},
		{MinMax, 4, 5, api.ErrFull},
		{Interval, 4, 4, api.OK},
		{Interval, 4, 5, api.ErrFull},
		{Interval, greatest, greatest, api.OK},
		{Interval, greatest, greatest + 1, api.ErrFull},
		{MinMax, greatest, greatest, api.OK},
		{MinMax, greatest, greatest + 1, api.ErrFull},

		{-1, 0, 1, api.ErrKind},
		{Kinds, greatest + 1, 1, api.ErrKind},
		{Kinds, 1, 2, api.ErrKind},
		{MinMax, 0, 1, api.ErrArg},
		{MinMax, -1, 0, api.ErrArg},
		{Interval, greatest + 1, greatest + 2, api.ErrArg},
	} {
		h, e := Bulk(x.k, x.most, make([]key.Entry, x.n))
		made(t, h, e, x.k, x.most, x.n, x.e)
		if x.n == 0 {
			h, e = New(x.k, x.most)
			made(t, h, e, x.k, x.most, 0, x.e)
		}
	}
}

// made tests what a call answered that was to make a heap with n entries.
func made(t *testing.T, h *Heap, e api.Errno, k Kind, most, n int, want api.Errno) {
	t.Helper()
	switch {
	case e != want || (h == nil) != (want != api.OK):
		t.Errorf("kind %d, capacity %d, %d entries: the error %d, nil: %v; want the error %d", k, most, n, e, h == nil, want)
	case h != nil && (h.Kind() != k || h.Len() != n || h.Room() != most-n):
		t.Errorf("kind %d, capacity %d, %d entries: Kind %d, Len %d, Room %d", k, most, n, h.Kind(), h.Len(), h.Room())
	}
}

// tellsNothing tests what an empty heap and a nil one have in common.
func tellsNothing(t *testing.T, h *Heap) {
	t.Helper()
	for name, f := range map[string]func() (key.Entry, bool){
		"Min": h.Min, "Max": h.Max, "PopMin": h.PopMin, "PopMax": h.PopMax,
	} {
		if x, ok := f(); ok || x != (key.Entry{}) {
			t.Errorf("%s is %v, %v", name, x, ok)
		}
	}
	for _, n := range []int{math.MinInt, -1, 0, 1, 9, math.MaxInt} {
		if l := h.Evict(n); len(l) != 0 {
			t.Errorf("Evict(%d) is %v", n, l)
		}
		if l := h.Drop(int64(n)); len(l) != 0 {
			t.Errorf("Drop(%d) is %v", n, l)
		}
	}
	if h.Len() != 0 || len(h.Sorted()) != 0 {
		t.Errorf("Len is %d, Sorted %v", h.Len(), h.Sorted())
	}
}

func TestNil(t *testing.T) {
	var h *Heap
	for range 2 {
		tellsNothing(t, h)
		if h.Kind() != 0 || h.Room() != 0 {
			t.Errorf("Kind is %d, Room %d", h.Kind(), h.Room())
		}
		if e := h.Push(sample.Bounded(1)); e != api.ErrNil {
			t.Errorf("Push is %d", e)
		}
	}
}

// TestHandMade: one that no call made has no room, and panics at nothing.
func TestHandMade(t *testing.T) {
	h := new(Heap)
	for range 2 {
		tellsNothing(t, h)
		if h.Kind() != 0 || h.Room() != 0 {
			t.Errorf("Kind is %d, Room %d", h.Kind(), h.Room())
		}
		if e := h.Push(sample.Bounded(1)); e != api.ErrFull {
			t.Errorf("Push is %d", e)
		}
	}
}

// TestEmpty: made so, or emptied, and still of use.
func TestEmpty(t *testing.T) {
	behind := sample.BoundedAll(3, 1, 2)
	for name, p := range map[string]*pair{
		"new": pushed(t, 4, nil), "of nil": bulked(t, 4, nil), "of none": bulked(t, 4, []key.Entry{}), "cut off": bulked(t, 4, behind[:0]),
		"evicted": emptied(t, func(h *Heap) { h.Evict(3) }),
		"dropped": emptied(t, func(h *Heap) { h.Drop(1) }),
		"popped":  emptied(t, func(h *Heap) { h.PopMin(); h.PopMax(); h.PopMin() }),
	} {
		for _, h := range p.heaps {
			tellsNothing(t, h)
		}
		p.holds(t)
		for _, x := range sample.BoundedAll(4, 6, 5) {
			p.push(t, x)
		}
		if p.holds(t); len(p.model) != 3 {
			t.Errorf("%s: %v", name, p.model)
		}
	}
}

// emptied is a pair from which all its entries are taken.
func emptied(t *testing.T, empty func(h *Heap)) *pair {
	t.Helper()
	p := bulked(t, 4, sample.BoundedAll(3, 1, 2))
	p.model = nil
	for _, h := range p.heaps {
		empty(h)
	}
	return p
}

// TestFull: one more is refused, which changes nothing, till one is gone.
func TestFull(t *testing.T) {
	d := sample.Dice(7)
	for most := 1; most < 40; most++ {
		for _, maker := range makers() {
			var l []key.Entry
			for range most {
				l = append(l, sample.Bounded(d.Roll(most)))
			}
			p := maker(t, most, l)
			for _, x := range []key.Entry{{}, sample.Bounded(-1), sample.Bounded(most / 2), sample.Bounded(most), l[0]} {
				p.push(t, x)
				p.holds(t)
			}
			for _, gone := range []func(){
				func() { p.pop(t, false) }, func() { p.pop(t, true) }, func() { p.evict(t, 1) }, func() { p.drop(t, p.model[most-1].Key.Bound) },
			} {
				gone()
				for len(p.model) < most {
					p.push(t, sample.Bounded(d.Roll(most)))
				}
				p.push(t, sample.Bounded(0))
				p.holds(t)
			}
		}
	}
}

// TestEvict: of a number below 0, of 0, of as many as there are, and of others.
func TestEvict(t *testing.T) {
	for _, l := range [][]key.Entry{nil, sample.BoundedAll(7), sample.BoundedAll(4, 1, 5, 3, 5, 2), sample.BoundedAll(2, 2, 2, 2), sample.Edges()} {
		numbers := []int{math.MinInt, math.MinInt + 1, -7, -1, math.MaxInt - 1, math.MaxInt}
		for n := range len(l) + 3 {
			numbers = append(numbers, n)
		}
		for _, n := range numbers {
			for _, maker := range makers() {
				p := maker(t, 20, l)
				p.evict(t, n)
				p.holds(t)
				p.evict(t, 1)
				p.push(t, sample.Bounded(3))
				p.holds(t)
			}
		}
	}
}

// TestDrop: of a bound below all, above all, and just at, above and below one.
func TestDrop(t *testing.T) {
	for _, l := range [][]key.Entry{nil, sample.BoundedAll(7), sample.BoundedAll(4, 1, 5, 3, 5, 2), sample.BoundedAll(2, 2, 2, 2), sample.BoundedAll(-3, 0, 3, -1), sample.Edges()} {
		for _, bound := range []int64{
			math.MinInt64, math.MinInt64 + 1, -4, -3, -2, -1, 0, 1, 2, 3, 4, 5, 6, 7, 8, math.MaxInt64 - 1, math.MaxInt64,
		} {
			for _, maker := range makers() {
				p := maker(t, 20, l)
				p.drop(t, bound)
				p.holds(t)
				p.drop(t, bound)
				p.push(t, sample.Bounded(3))
				p.holds(t)
				p.drop(t, 3)
				p.holds(t)
			}
		}
	}
}

// TestSame: of entries that are the same just one goes at a time, and each
// counts in the capacity.
func TestSame(t *testing.T) {
	x := key.Entry{Key: key.Key{Bound: 2, Depth: 3, Seq: 4}, ID: 5}
	for n := 1; n < 20; n++ {
		for name, maker := range makers() {
			p := maker(t, n, slices.Repeat([]key.Entry{x}, n))
			p.push(t, x)
			for left := n; left > 0; left -= 3 {
				p.pop(t, false)
				p.pop(t, true)
				p.evict(t, 1)
				p.holds(t)
			}
			if len(p.model) != 0 {
				t.Errorf("%s: %v", name, p.model)
			}
		}
	}
}

// TestAllSequences does whatever can be done in a few steps, with few entries
// that are often the same, and with room for three.
func TestAllSequences(t *testing.T) {
	const steps, choices = 5, 9
	sequences := 1
	for range steps {
		sequences *= choices
	}
	for code := range sequences {
		p := pushed(t, 3, nil)
		for rest := code; rest > 0; rest /= choices {
			p.step(t, rest%choices)
		}
		p.holds(t)
	}
}

// step does one of nine things.
func (p *pair) step(t *testing.T, choice int) {
	t.Helper()
	switch choice {
	case 0, 1:
		p.pop(t, choice == 1)
	case 2, 3:
		p.evict(t, choice-1)
	case 4, 5:
		p.drop(t, int64(choice+2))
	default:
		p.push(t, sample.Bounded(choice))
	}
}

// TestAllSizes drains heaps of all sizes up to some from either end.
func TestAllSizes(t *testing.T) {
	d := sample.Dice(3)
	var unlike, alike []key.Entry
	for n := range 100 {
		for _, sorted := range [][]key.Entry{unlike, alike} {
			for _, maker := range makers() {
				p := maker(t, n+1, d.Shuffled(sorted))
				p.holds(t)
				for ends := d.Roll(1 << 20); len(p.model) > 0; ends = ends/2 + 1<<19*(ends%2) {
					p.pop(t, ends%2 == 1)
					tell(t, p, "Room", (*Heap).Room, n+1-len(p.model))
				}
				p.holds(t)
			}
		}
		unlike = append(unlike, sample.Bounded(n))
		alike = append(alike, sample.Bounded(n/7))
	}
}

func TestEdgesOfNumbers(t *testing.T) {
	d := sample.Dice(5)
	for range 100 {
		for _, maker := range makers() {
			p := maker(t, len(sample.Edges()), d.Shuffled(sample.Edges()))
			for len(p.model) > 0 {
				p.holds(t)
				p.pop(t, d.Roll(2) == 1)
			}
		}
	}
}

// TestLongRuns does all that can be done in any order, with many entries that
// are the same and with few, while heaps grow, are full, and shrink.
func TestLongRuns(t *testing.T) {
	for _, kinds := range []int{1, 3, 40, math.MaxInt32} {
		for seed := range 6 {
			d := sample.Dice(seed)
			p := pushed(t, 20+30*seed, nil)
			for step := range 900 {
				growing := step%300 < 200
				if d.Roll(8) < 3 == growing {
					p.takes(t, &d, kinds)
				} else {
					p.push(t, key.Entry{Key: key.Key{Bound: int64(d.Roll(kinds)), Depth: d.Roll(3), Seq: int64(d.Roll(2))}, ID: d.Roll(4)})
				}
				p.holds(t)
			}
		}
	}
}

// takes takes away some entries, mostly few.
func (p *pair) takes(t *testing.T, d *sample.Dice, kinds int) {
	t.Helper()
	switch d.Roll(8) {
	case 0:
		p.evict(t, d.Roll(5)-1)
	case 1:
		p.drop(t, int64(kinds-kinds/16))
	default:
		p.pop(t, d.Roll(2) == 1)
	}
}

// TestMany: of great heaps neither call goes through all that is left (or this
// test would take very long).
func TestMany(t *testing.T) {
	const n = 1 << 17
	var l []key.Entry
	d := sample.Dice(1)
	for range n {
		l = append(l, sample.Bounded(d.Roll(n)))
	}
	want := key.Sort(l)
	for k := range Kinds {
		h, e := Bulk(k, n, l)
		if e != api.OK {
			t.Fatalf("Bulk: %d", e)
		}
		for i := range n / 2 {
			first, _ := h.PopMin()
			last := h.Evict(1)
			if first != want[i] || len(last) != 1 || last[0] != want[n-1-i] {
				t.Fatalf("kind %d: %d: %v, %v; want %v, %v", k, i, first, last, want[i], want[n-1-i])
			}
			if gone := h.Drop(math.MaxInt64); len(gone) != 0 || h.Room() != 2*i+2 {
				t.Fatalf("kind %d: %d: %v are dropped, Room is %d", k, i, gone, h.Room())
			}
		}
		tellsNothing(t, h)
	}
}
