package mmheap

import (
	"math"
	"slices"
	"testing"

	"secateur/key"
	"secateur/sample"
)

// P5.1

func TestExample(t *testing.T) {
	k := key.Key{Bound: 3, Depth: 5, Seq: 7}
	l := []key.Entry{{Key: k, ID: 2}, {Key: k, ID: 7}, {Key: k, ID: 5}}
	for name, maker := range makers() {
		h := maker(l)
		if x, ok := h.Min(); x != l[0] || !ok {
			t.Errorf("%s: Min is %v, %v", name, x, ok)
		}
		if x, ok := h.Max(); x != l[1] || !ok {
			t.Errorf("%s: Max is %v, %v", name, x, ok)
		}
		if h.Len() != 3 {
			t.Errorf("%s: Len is %d", name, h.Len())
		}
	}
}

// tellsNothing tests what an empty heap and a nil one have in common.
func tellsNothing(t *testing.T, h *Heap) {
	t.Helper()
	if h.Len() != 0 || len(h.List()) != 0 {
		t.Errorf("Len is %d, List %v", h.Len(), h.List())
	}
	for name, f := range map[string]func() (key.Entry, bool){
		"Min": h.Min, "Max": h.Max, "PopMin": h.PopMin, "PopMax": h.PopMax,
	} {
		for range 2 {
			if x, ok := f(); ok || x != (key.Entry{}) {
				t.Errorf("%s is %v, %v", name, x, ok)
			}
		}
	}
	if h.Len() != 0 || len(h.List()) != 0 {
		t.Errorf("after pops Len is %d, List %v", h.Len(), h.List())
	}
}

func TestNil(t *testing.T) {
	var h *Heap
	tellsNothing(t, h)
	h.Push(sample.Bounded(1))
	tellsNothing(t, h)
}

func TestEmpty(t *testing.T) {
	behind := sample.BoundedAll(3, 1, 2)
	for name, h := range map[string]*Heap{
		"new": New(), "of nil": Build(nil), "of none": Build([]key.Entry{}), "cut off": Build(behind[:0]),
	} {
		if h == nil {
			t.Fatalf("%s: nil", name)
		}
		tellsNothing(t, h)
		for _, x := range sample.BoundedAll(4, 6, 5) {
			h.Push(x)
		}
		holds(t, h, sample.BoundedAll(4, 5, 6))
	}
}

func TestSingle(t *testing.T) {
	for _, x := range append(sample.Edges(), key.Entry{}) {
		for name, maker := range makers() {
			for _, max := range []bool{false, true} {
				h, m := maker([]key.Entry{x}), sample.Model{x}
				holds(t, h, m)
				popsBoth(t, h, &m, max)
				tellsNothing(t, h)
				h.Push(x)
				if l := h.List(); !slices.Equal(l, []key.Entry{x}) {
					t.Errorf("%s: pushed again: %v", name, l)
				}
			}
		}
	}
}

// TestAllSequences does whatever can be done in a few steps, with few entries
// that are often the same.
func TestAllSequences(t *testing.T) {
	const steps, choices = 8, 5
	sequences := 1
	for range steps {
		sequences *= choices
	}
	for code := range sequences {
		h, m := New(), sample.Model{}
		for rest := code; rest > 0; rest /= choices {
			switch c := rest % choices; c {
			case 0, 1:
				popsBoth(t, h, &m, c == 1)
			default:
				h.Push(sample.Bounded(c))
				m.Push(sample.Bounded(c))
			}
		}
		holds(t, h, m)
	}
}

// permuted hands on every order of the entries, in one list that it writes again.
func permuted(l []key.Entry, from int, f func([]key.Entry)) {
	if from == len(l) {
		f(l)
		return
	}
	for i := from; i < len(l); i++ {
		l[from], l[i] = l[i], l[from]
		permuted(l, from+1, f)
		l[from], l[i] = l[i], l[from]
	}
}

// TestAllOrders: whatever the order that entries come in, the same ones among
// them or not, they go in theirs, from either end.
func TestAllOrders(t *testing.T) {
	for _, want := range [][]key.Entry{sample.BoundedAll(1, 2, 3, 4, 5, 6, 7), sample.BoundedAll(1, 2, 2, 3, 3, 3, 4)} {
		n := 0
		permuted(slices.Clone(want), 0, func(l []key.Entry) {
			n++
			for _, maker := range makers() {
				h, m := maker(l), sample.Model(slices.Clone(want))
				holds(t, h, m)
				for ends := n % 128; len(m) > 0; ends /= 2 {
					popsBoth(t, h, &m, ends%2 == 1)
					holds(t, h, m)
				}
			}
		})
	}
}

// orders are ways to lay a list of entries.
func orders(sorted []key.Entry) map[string][]key.Entry {
	d := sample.Dice(len(sorted))
	reversed := slices.Clone(sorted)
	slices.Reverse(reversed)
	return map[string][]key.Entry{"rising": slices.Clone(sorted), "falling": reversed, "strewn": d.Shuffled(sorted)}
}

// TestAllSizes: levels that are full, that begin and that lack one.
func TestAllSizes(t *testing.T) {
	var unlike, alike []key.Entry
	for n := range 140 {
		for _, sorted := range [][]key.Entry{unlike, alike} {
			for _, l := range orders(sorted) {
				for _, maker := range makers() {
					holds(t, maker(l), sorted)
					drains(t, maker(l), sorted, func(int) bool { return false })
					drains(t, maker(l), sorted, func(int) bool { return true })
					drains(t, maker(l), sorted, func(left int) bool { return left%3 == 0 })
				}
			}
		}
		unlike = append(unlike, sample.Bounded(n))
		alike = append(alike, sample.Bounded(n/9))
	}
}

// drains pops all that a heap holds, at the ends that are told by what is left.
func drains(t *testing.T, h *Heap, sorted []key.Entry, max func(left int) bool) {
	t.Helper()
	m := sample.Model(slices.Clone(sorted))
	for len(m) > 0 {
		popsBoth(t, h, &m, max(len(m)))
		endsAre(t, h, m)
	}
	if h.Len() != 0 {
		t.Fatalf("%d are left of a heap that was drained", h.Len())
	}
}

func TestEdgesOfNumbers(t *testing.T) {
	d := sample.Dice(5)
	for range 300 {
		for _, maker := range makers() {
			h, m := maker(d.Shuffled(sample.Edges())), sample.Model(sample.Edges())
			for len(m) > 0 {
				holds(t, h, m)
				popsBoth(t, h, &m, d.Roll(2) == 1)
			}
		}
	}
}

// TestLongRuns pushes and pops in any order, with many entries that are the
// same and with few, while heaps grow and while they shrink.
func TestLongRuns(t *testing.T) {
	for _, kinds := range []int{1, 3, 40, math.MaxInt32} {
		for seed := range 6 {
			d := sample.Dice(seed)
			h, m := New(), sample.Model{}
			for step := range 1200 {
				growing := step%400 < 250
				if d.Roll(8) < 3 == growing {
					popsBoth(t, h, &m, d.Roll(2) == 1)
				} else {
					x := key.Entry{Key: key.Key{Bound: int64(d.Roll(kinds)), Depth: d.Roll(3), Seq: int64(d.Roll(2))}, ID: d.Roll(4)}
					h.Push(x)
					m.Push(x)
				}
				holds(t, h, m)
			}
		}
	}
}

// TestMany: a great heap keeps its order, and its calls don't go through all of
// it (or this test would take very long).
func TestMany(t *testing.T) {
	const n = 1 << 18
	var l []key.Entry
	d := sample.Dice(1)
	for range n {
		l = append(l, sample.Bounded(d.Roll(n)))
	}
	want := key.Sort(l)
	for name, maker := range makers() {
		h := maker(l)
		for i := range n / 2 {
			first, _ := h.PopMin()
			last, _ := h.PopMax()
			if first != want[i] || last != want[n-1-i] {
				t.Fatalf("%s: %d: %v, %v; want %v, %v", name, i, first, last, want[i], want[n-1-i])
			}
		}
		tellsNothing(t, h)
	}
}
