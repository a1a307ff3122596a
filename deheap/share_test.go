package deheap

import (
	"slices"
	"testing"

	"secateur/key"
	"secateur/sample"
)

// Rules 2 to 4, and P2

// TestBulkLeavesTheList: neither the call nor what is done to the heaps then
// changes the list that was handed in, also where it is refused.
func TestBulkLeavesTheList(t *testing.T) {
	in := sample.BoundedAll(9, 1, 8, 2, 7, 3, 6, 4, 5)
	for n := range len(in) + 1 {
		l := slices.Clone(in)
		p := bulked(t, 20, l[:n])
		p.push(t, sample.Bounded(0))
		p.push(t, sample.Bounded(10))
		p.pop(t, false)
		p.pop(t, true)
		p.evict(t, 1)
		p.drop(t, 8)
		p.push(t, sample.Bounded(11))
		for k := range Kinds + 1 {
			Bulk(k, n/2, l[:n])
		}
		if !slices.Equal(l, in) {
			t.Errorf("of the first %d: the list became %v", n, l)
		}
	}
}

func TestBulkKeepsNoList(t *testing.T) {
	l := sample.BoundedAll(9, 1, 8, 2, 7)
	p := bulked(t, 9, l)
	sample.Overwrite(l)
	p.holds(t)
}

// TestBulkBehindTheLength: what lies there is neither in the heap nor counted.
func TestBulkBehindTheLength(t *testing.T) {
	l := sample.BoundedAll(5, 3, 4, 0, 9)
	bulked(t, 3, l[:3]).holds(t)
	bulked(t, 1, l[1:2]).holds(t)
}

// lists are the calls that hand out a list, each of three entries of six.
func lists() map[string]func(*Heap) []key.Entry {
	return map[string]func(*Heap) []key.Entry{
		"Sorted": func(h *Heap) []key.Entry { return h.Sorted()[:3] },
		"Evict":  func(h *Heap) []key.Entry { return h.Evict(3) },
		"Drop":   func(h *Heap) []key.Entry { return h.Drop(4) },
	}
}

// TestListsAreTheCallers: what is written to one, or behind it, neither the
// heap nor another list sees, and what the heap does then isn't seen in it.
func TestListsAreTheCallers(t *testing.T) {
	for k := range Kinds {
		for name, ask := range lists() {
			for one, askOne := range lists() {
				h, _ := Bulk(k, 9, sample.BoundedAll(4, 2, 6, 1, 5, 3))
				first := askOne(h)
				h.Drop(-9)
				for _, x := range sample.BoundedAll(4, 2, 6, 1, 5, 3) {
					h.Push(x)
				}
				second := ask(h)
				before, left := slices.Clone(second), h.Sorted()
				sample.Overwrite(append(first, sample.Bounded(0)))
				sample.Overwrite(first[:cap(first)])
				if !slices.Equal(second, before) || !slices.Equal(h.Sorted(), left) {
					t.Errorf("kind %d: %s was written: %s became %v, the heap %v", k, one, name, second, h.Sorted())
				}
				for _, x := range sample.BoundedAll(7, 0, 8) {
					h.Push(x)
				}
				h.PopMin()
				h.PopMax()
				if !slices.Equal(second, before) {
					t.Errorf("kind %d: %s became %v, as the heap changed; want %v", k, name, second, before)
				}
			}
		}
	}
}

// TestListsHandOutNothingBehind: neither entries that are left, nor the room
// that the heap grows into.
func TestListsHandOutNothingBehind(t *testing.T) {
	for k := range Kinds {
		for n := range 9 {
			for name, ask := range map[string]func(*Heap) []key.Entry{
				"Sorted": (*Heap).Sorted,
				"Evict":  func(h *Heap) []key.Entry { return h.Evict(n) },
				"Drop":   func(h *Heap) []key.Entry { return h.Drop(int64(n)) },
			} {
				h, _ := Bulk(k, 9, sample.BoundedAll(4, 2, 6, 1, 5, 3, 8, 7))
				l := ask(h)
				for _, x := range l[len(l):cap(l)] {
					if x != (key.Entry{}) {
						t.Errorf("kind %d: behind %s of %d lies %v", k, name, len(l), x)
					}
				}
			}
		}
	}
}

// TestHeapsApart: of one list, and of none.
func TestHeapsApart(t *testing.T) {
	l := sample.BoundedAll(3, 1, 2)
	a, b, c, d := bulked(t, 4, l), bulked(t, 3, l), pushed(t, 4, nil), pushed(t, 4, nil)
	a.pop(t, false)
	a.push(t, sample.Bounded(8))
	a.push(t, sample.Bounded(9))
	a.evict(t, 1)
	c.push(t, sample.Bounded(9))
	for _, p := range []*pair{a, b, c, d} {
		p.holds(t)
	}
}
