package iheap

import (
	"fmt"
	"slices"
	"testing"

	"secateur/key"
	"secateur/sample"
)

// fault tells where a list doesn't stand right, by the document's words on it;
// nothing, if it does.
func fault(l []key.Entry) string {
	for first := 0; first < len(l); first += 2 {
		second := first + 1
		if second < len(l) && key.Less(l[second], l[first]) {
			return fmt.Sprintf("the place %d comes behind %d, its second", first, second)
		}
		k := first / 2
		if k == 0 {
			continue
		}
		over := (k - 1) / 2
		for place := first; place <= second && place < len(l); place++ {
			if key.Less(l[place], l[2*over]) {
				return fmt.Sprintf("the place %d comes ahead of %d, the first of the pair %d", place, 2*over, over)
			}
			if key.Less(l[2*over+1], l[place]) {
				return fmt.Sprintf("the place %d comes behind %d, the second of the pair %d", place, 2*over+1, over)
			}
		}
	}
	return ""
}

// holds tests that a heap holds just the entries of m, each as often as there,
// and that what it lists stands right.
func holds(t *testing.T, h *Heap, m sample.Model) {
	t.Helper()
	if h.Len() != len(m) {
		t.Fatalf("Len is %d; want %d", h.Len(), len(m))
	}
	l := h.List()
	if !slices.Equal(key.Sort(l), m) {
		t.Fatalf("List is %v; want the entries %v", l, m)
	}
	if f := fault(l); f != "" {
		t.Fatalf("%s: %v", f, l)
	}
	endsAre(t, h, m)
}

// endsAre tests the first and the last, which nothing changes by being told.
func endsAre(t *testing.T, h *Heap, m sample.Model) {
	t.Helper()
	first, there := m.End(false)
	last, _ := m.End(true)
	for range 2 {
		if x, ok := h.Min(); x != first || ok != there {
			t.Fatalf("Min is %v, %v; want %v of %v", x, ok, first, m)
		}
		if x, ok := h.Max(); x != last || ok != there {
			t.Fatalf("Max is %v, %v; want %v of %v", x, ok, last, m)
		}
	}
}

// popsBoth takes one end's entry from the heap and from the model.
func popsBoth(t *testing.T, h *Heap, m *sample.Model, last bool) {
	t.Helper()
	pop := h.PopMin
	if last {
		pop = h.PopMax
	}
	x, ok := pop()
	if y, there := m.Pop(last); x != y || ok != there {
		t.Fatalf("a pop (of the last: %v) is %v, %v; want %v, %v", last, x, ok, y, there)
	}
}

// pushAll pushes the entries one by one.
func pushAll(h *Heap, l []key.Entry) *Heap {
	for _, x := range l {
		h.Push(x)
	}
	return h
}

// makers are the ways to a heap with some entries.
func makers() map[string]func([]key.Entry) *Heap {
	return map[string]func([]key.Entry) *Heap{
		"built":  Build,
		"pushed": func(l []key.Entry) *Heap { return pushAll(New(), l) },
		"half built, half pushed": func(l []key.Entry) *Heap {
			return pushAll(Build(l[:len(l)/2]), l[len(l)/2:])
		},
	}
}
