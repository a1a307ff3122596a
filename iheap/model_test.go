package iheap

import (
	"fmt"
	"math"
	"slices"
	"testing"

	"secateur/key"
)

// model is the entries that a heap is to hold, in their order.
type model []key.Entry

func (m *model) push(x key.Entry) {
	at := 0
	for at < len(*m) && key.Less((*m)[at], x) {
		at++
	}
	*m = slices.Insert(*m, at, x)
}

// end is the model's first or last entry.
func (m *model) end(last bool) (key.Entry, bool) {
	switch {
	case len(*m) == 0:
		return key.Entry{}, false
	case last:
		return (*m)[len(*m)-1], true
	}
	return (*m)[0], true
}

func (m *model) pop(last bool) (key.Entry, bool) {
	x, ok := m.end(last)
	switch {
	case ok && last:
		*m = (*m)[:len(*m)-1]
	case ok:
		*m = (*m)[1:]
	}
	return x, ok
}

// fault tells where a list doesn't stand right, by the document's words on it;
// nothing, if it does.
func fault(l []key.Entry) string {
	for first := 0; first < len(l); first += 2 {
		second := first + 1
		if second < len(l) && key.Less(l[second], l[first]) {
			return fmt.Sprintf("the place %d comes behind %d, its second", first, second)
		}
		k := first / 2
		if k == 0 {
			continue
		}
		over := (k - 1) / 2
		for place := first; place <= second && place < len(l); place++ {
			if key.Less(l[place], l[2*over]) {
				return fmt.Sprintf("the place %d comes ahead of %d, the first of the pair %d", place, 2*over, over)
			}
			if key.Less(l[2*over+1], l[place]) {
				return fmt.Sprintf("the place %d comes behind %d, the second of the pair %d", place, 2*over+1, over)
			}
		}
	}
	return ""
}

// holds tests that a heap holds just the entries of m, each as often as there,
// and that what it lists stands right.
func holds(t *testing.T, h *Heap, m model) {
	t.Helper()
	if h.Len() != len(m) {
		t.Fatalf("Len is %d; want %d", h.Len(), len(m))
	}
	l := h.List()
	if !slices.Equal(key.Sort(l), m) {
		t.Fatalf("List is %v; want the entries %v", l, m)
	}
	if f := fault(l); f != "" {
		t.Fatalf("%s: %v", f, l)
	}
	endsAre(t, h, m)
}

// endsAre tests the first and the last, which nothing changes by being told.
func endsAre(t *testing.T, h *Heap, m model) {
	t.Helper()
	first, there := m.end(false)
	last, _ := m.end(true)
	for range 2 {
		if x, ok := h.Min(); x != first || ok != there {
			t.Fatalf("Min is %v, %v; want %v of %v", x, ok, first, m)
		}
		if x, ok := h.Max(); x != last || ok != there {
			t.Fatalf("Max is %v, %v; want %v of %v", x, ok, last, m)
		}
	}
}

// popsBoth takes one end's entry from the heap and from the model.
func popsBoth(t *testing.T, h *Heap, m *model, last bool) {
	t.Helper()
	pop := h.PopMin
	if last {
		pop = h.PopMax
	}
	x, ok := pop()
	if y, there := m.pop(last); x != y || ok != there {
		t.Fatalf("a pop (of the last: %v) is %v, %v; want %v, %v", last, x, ok, y, there)
	}
}

// pushAll pushes the entries one by one.
func pushAll(h *Heap, l []key.Entry) *Heap {
	for _, x := range l {
		h.Push(x)
	}
	return h
}

// makers are the ways to a heap with some entries.
func makers() map[string]func([]key.Entry) *Heap {
	return map[string]func([]key.Entry) *Heap{
		"built":  Build,
		"pushed": func(l []key.Entry) *Heap { return pushAll(New(), l) },
		"half built, half pushed": func(l []key.Entry) *Heap {
			return pushAll(Build(l[:len(l)/2]), l[len(l)/2:])
		},
	}
}

// bounded is an entry whose bound and ID are one number.
func bounded(n int) key.Entry {
	return key.Entry{Key: key.Key{Bound: int64(n)}, ID: n}
}

func boundedAll(numbers ...int) []key.Entry {
	var l []key.Entry
	for _, n := range numbers {
		l = append(l, bounded(n))
	}
	return l
}

// edges are entries in their order: unlike in one part, or in parts that speak
// against one another, with both ends of the numbers, and the same twice.
func edges() []key.Entry {
	return []key.Entry{
		{Key: key.Key{Bound: math.MinInt64, Depth: math.MaxInt, Seq: math.MaxInt64}, ID: math.MaxInt},
		{Key: key.Key{Bound: math.MinInt64, Depth: math.MinInt, Seq: math.MinInt64}, ID: math.MinInt},
		{Key: key.Key{Bound: -2, Depth: 1, Seq: 9}, ID: 9},
		{Key: key.Key{Bound: 4, Depth: 7, Seq: 8}, ID: 6},
		{Key: key.Key{Bound: 4, Depth: 6, Seq: math.MinInt64}, ID: 8},
		{Key: key.Key{Bound: 4, Depth: 6, Seq: 0}, ID: math.MinInt},
		{Key: key.Key{Bound: 4, Depth: 6, Seq: 0}, ID: 2},
		{Key: key.Key{Bound: 4, Depth: 6, Seq: 0}, ID: 2},
		{Key: key.Key{Bound: 4, Depth: 6, Seq: 0}, ID: math.MaxInt},
		{Key: key.Key{Bound: 4, Depth: 6, Seq: math.MaxInt64}, ID: 1},
		{Key: key.Key{Bound: math.MaxInt64, Depth: math.MaxInt, Seq: math.MaxInt64}, ID: 3},
		{Key: key.Key{Bound: math.MaxInt64, Depth: math.MinInt, Seq: math.MinInt64}, ID: math.MinInt},
	}
}

// dice tells numbers that follow no order to be seen, the same in each run.
type dice uint64

func (d *dice) roll(n int) int {
	*d = *d*6364136223846793005 + 1442695040888963407
	return int(uint64(*d)>>33) % n
}

func (d *dice) shuffled(l []key.Entry) []key.Entry {
	s := slices.Clone(l)
	for i := len(s) - 1; i > 0; i-- {
		k := d.roll(i + 1)
		s[i], s[k] = s[k], s[i]
	}
	return s
}
