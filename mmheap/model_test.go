package mmheap

import (
	"slices"
	"testing"

	"secateur/key"
	"secateur/sample"
)

// level is that of a place: each has twice as many places as the one ahead.
func level(place int) int {
	n := 0
	for end, width := 1, 1; place >= end; n++ {
		width *= 2
		end += width
	}
	return n
}

// below tells the places below i, all the way down to the end of a list of n.
func below(i, n int) []int {
	var all []int
	for _, k := range []int{2*i + 1, 2*i + 2} {
		if k < n {
			all = append(all, k)
			all = append(all, below(k, n)...)
		}
	}
	return all
}

// standsRight tests a list against the document's words on it.
func standsRight(t *testing.T, l []key.Entry) {
	t.Helper()
	for i, x := range l {
		for _, k := range below(i, len(l)) {
			if level(i)%2 == 0 && key.Less(l[k], x) {
				t.Fatalf("the place %d, of an even level, comes behind %d below it: %v", i, k, l)
			}
			if level(i)%2 == 1 && key.Less(x, l[k]) {
				t.Fatalf("the place %d, of an odd level, comes ahead of %d below it: %v", i, k, l)
			}
		}
	}
}

// holds tests that a heap holds just the entries of m, each as often as there,
// and that what it lists stands right.
func holds(t *testing.T, h *Heap, m sample.Model) {
	t.Helper()
	if h.Len() != len(m) {
		t.Fatalf("Len is %d; want %d", h.Len(), len(m))
	}
	l := h.List()
	if !slices.Equal(key.Sort(l), m) {
		t.Fatalf("List is %v; want the entries %v", l, m)
	}
	standsRight(t, l)
	endsAre(t, h, m)
}

// endsAre tests the first and the last, which nothing changes by being told.
func endsAre(t *testing.T, h *Heap, m sample.Model) {
	t.Helper()
	first, there := m.End(false)
	last, _ := m.End(true)
	for range 2 {
		if x, ok := h.Min(); x != first || ok != there {
			t.Fatalf("Min is %v, %v; want %v of %v", x, ok, first, m)
		}
		if x, ok := h.Max(); x != last || ok != there {
			t.Fatalf("Max is %v, %v; want %v of %v", x, ok, last, m)
		}
	}
}

// popsBoth takes one end's entry from the heap and from the model.
func popsBoth(t *testing.T, h *Heap, m *sample.Model, last bool) {
	t.Helper()
	pop := h.PopMin
	if last {
		pop = h.PopMax
	}
	x, ok := pop()
	if y, there := m.Pop(last); x != y || ok != there {
		t.Fatalf("a pop (of the last: %v) is %v, %v; want %v, %v", last, x, ok, y, there)
	}
}

// pushed is a heap that the entries were pushed into, one by one.
func pushed(l []key.Entry) *Heap {
	h := New()
	for _, x := range l {
		h.Push(x)
	}
	return h
}

// makers are the ways to a heap with some entries.
func makers() map[string]func([]key.Entry) *Heap {
	return map[string]func([]key.Entry) *Heap{
		"built":  Build,
		"pushed": pushed,
		"half built, half pushed": func(l []key.Entry) *Heap {
			h := Build(l[:len(l)/2])
			for _, x := range l[len(l)/2:] {
				h.Push(x)
			}
			return h
		},
	}
}
