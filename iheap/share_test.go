package iheap

import (
	"slices"
	"testing"

	"secateur/key"
	"secateur/sample"
)

// Rules 2 to 4, and P2

// TestBuildLeavesTheList: neither the call nor what is done to the heap then
// changes the list that was handed in.
func TestBuildLeavesTheList(t *testing.T) {
	in := sample.BoundedAll(9, 1, 8, 2, 7, 3, 6, 4, 5)
	for n := range len(in) + 1 {
		l := slices.Clone(in)
		h := Build(l[:n])
		h.Push(sample.Bounded(0))
		h.Push(sample.Bounded(10))
		h.PopMin()
		h.PopMin()
		h.PopMax()
		h.Push(sample.Bounded(11))
		if !slices.Equal(l, in) {
			t.Errorf("of the first %d: the list became %v", n, l)
		}
	}
}

func TestBuildKeepsNoList(t *testing.T) {
	l := sample.BoundedAll(9, 1, 8, 2, 7)
	h := Build(l)
	sample.Overwrite(l)
	holds(t, h, sample.BoundedAll(1, 2, 7, 8, 9))
}

// TestBuildBehindTheLength: what lies there isn't in the heap.
func TestBuildBehindTheLength(t *testing.T) {
	l := sample.BoundedAll(5, 3, 4, 0, 9)
	holds(t, Build(l[:3]), sample.BoundedAll(3, 4, 5))
	holds(t, Build(l[1:2]), sample.BoundedAll(3))
}

// TestListIsTheCallers: what is written to it, or behind it, the heap doesn't
// see, and what the heap does then isn't seen in it.
func TestListIsTheCallers(t *testing.T) {
	for name, maker := range makers() {
		h := maker(sample.BoundedAll(4, 2, 6, 1, 5, 3))
		first, second := h.List(), h.List()
		if !slices.Equal(first, second) {
			t.Errorf("%s: List is %v, then %v", name, first, second)
		}
		before := slices.Clone(second)
		sample.Overwrite(first)
		sample.Overwrite(append(first, sample.Bounded(0)))
		sample.Overwrite(first[:cap(first)])
		if !slices.Equal(second, before) {
			t.Errorf("%s: a list became %v, as another one was written; want %v", name, second, before)
		}
		holds(t, h, sample.BoundedAll(1, 2, 3, 4, 5, 6))
		h.PopMax()
		h.PopMin()
		h.Push(sample.Bounded(7))
		if !slices.Equal(second, before) {
			t.Errorf("%s: a list became %v, as the heap changed; want %v", name, second, before)
		}
		holds(t, h, sample.BoundedAll(2, 3, 4, 5, 7))
	}
}

// TestListHandsOutNothingBehind: neither entries that are gone, nor the room
// that the heap grows into.
func TestListHandsOutNothingBehind(t *testing.T) {
	h := pushAll(New(), sample.BoundedAll(4, 2, 6, 1, 5, 3))
	for h.Len() > 0 {
		h.PopMax()
		l := h.List()
		for _, x := range l[len(l):cap(l)] {
			if x != (key.Entry{}) {
				t.Errorf("behind a list of %d lies %v", len(l), x)
			}
		}
	}
}

// TestHeapsApart: of one list, and of none.
func TestHeapsApart(t *testing.T) {
	l := sample.BoundedAll(3, 1, 2)
	a, b, c, d := Build(l), Build(l), New(), New()
	a.PopMin()
	a.Push(sample.Bounded(8))
	c.Push(sample.Bounded(9))
	holds(t, a, sample.BoundedAll(2, 3, 8))
	holds(t, b, sample.BoundedAll(1, 2, 3))
	holds(t, c, sample.BoundedAll(9))
	tellsNothing(t, d)
}

// TestListHangsOnWhatWasDone: heaps to which the same was done stand the same.
func TestListHangsOnWhatWasDone(t *testing.T) {
	for name, maker := range makers() {
		d := sample.Dice(3)
		l := d.Shuffled(append(sample.Edges(), sample.BoundedAll(5, 5, 2, 1, 8, 8, 3)...))
		a, b := maker(l), maker(l)
		for a.Len() > 0 {
			if !slices.Equal(a.List(), b.List()) {
				t.Fatalf("%s: %v, and %v", name, a.List(), b.List())
			}
			a.PopMin()
			b.PopMin()
		}
	}
}
