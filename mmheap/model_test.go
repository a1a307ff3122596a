package mmheap

import (
	"math"
	"slices"
	"testing"

	"secateur/key"
)

// model is the entries that a heap is to hold, in their order.
type model []key.Entry

func (m *model) push(x key.Entry) {
	at := 0
	for at < len(*m) && key.Less((*m)[at], x) {
		at++
	}
	*m = slices.Insert(*m, at, x)
}

func (m *model) popMin() (key.Entry, bool) {
	if len(*m) == 0 {
		return key.Entry{}, false
	}
	x := (*m)[0]
	*m = (*m)[1:]
	return x, true
}

func (m *model) popMax() (key.Entry, bool) {
	if len(*m) == 0 {
		return key.Entry{}, false
	}
	x := (*m)[len(*m)-1]
	*m = (*m)[:len(*m)-1]
	return x, true
}

// level is that of a place: each has twice as many places as the one ahead.
func level(place int) int {
	n := 0
	for end, width := 1, 1; place >= end; n++ {
		width *= 2
		end += width
	}
	return n
}

// below tells the places below i, all the way down to the end of a list of n.
func below(i, n int) []int {
	var all []int
	for _, k := range []int{2*i + 1, 2*i + 2} {
		if k < n {
			all = append(all, k)
			all = append(all, below(k, n)...)
		}
	}
	return all
}

// standsRight tests a list against the document's words on it.
func standsRight(t *testing.T, l []key.Entry) {
	t.Helper()
	for i, x := range l {
		for _, k := range below(i, len(l)) {
			if level(i)%2 == 0 && key.Less(l[k], x) {
				t.Fatalf("the place %d, of an even level, comes behind %d below it: %v", i, k, l)
			}
			if level(i)%2 == 1 && key.Less(x, l[k]) {
				t.Fatalf("the place %d, of an odd level, comes ahead of %d below it: %v", i, k, l)
			}
		}
	}
}

// holds tests that a heap holds just the entries of m, each as often as there,
// and that what it lists stands right.
func holds(t *testing.T, h *Heap, m model) {
	t.Helper()
	if h.Len() != len(m) {
		t.Fatalf("Len is %d; want %d", h.Len(), len(m))
	}
	l := h.List()
	if !slices.Equal(key.Sort(l), m) {
		t.Fatalf("List is %v; want the entries %v", l, m)
	}
	standsRight(t, l)
	endsAre(t, h, m)
}

// endsAre tests the first and the last, which nothing changes by being told.
func endsAre(t *testing.T, h *Heap, m model) {
	t.Helper()
	first, last := key.Entry{}, key.Entry{}
	if len(m) > 0 {
		first, last = m[0], m[len(m)-1]
	}
	for range 2 {
		if x, ok := h.Min(); x != first || ok != (len(m) > 0) {
			t.Fatalf("Min is %v, %v; want %v of %v", x, ok, first, m)
		}
		if x, ok := h.Max(); x != last || ok != (len(m) > 0) {
			t.Fatalf("Max is %v, %v; want %v of %v", x, ok, last, m)
		}
	}
}

// popsBoth takes one end's entry from the heap and from the model.
func popsBoth(t *testing.T, h *Heap, m *model, max bool) {
	t.Helper()
	pop, want := h.PopMin, m.popMin
	if max {
		pop, want = h.PopMax, m.popMax
	}
	x, ok := pop()
	if y, there := want(); x != y || ok != there {
		t.Fatalf("a pop (of the last: %v) is %v, %v; want %v, %v", max, x, ok, y, there)
	}
}

// pushed is a heap that the entries were pushed into, one by one.
func pushed(l []key.Entry) *Heap {
	h := New()
	for _, x := range l {
		h.Push(x)
	}
	return h
}

// makers are the ways to a heap with some entries.
func makers() map[string]func([]key.Entry) *Heap {
	return map[string]func([]key.Entry) *Heap{
		"built":  Build,
		"pushed": pushed,
		"half built, half pushed": func(l []key.Entry) *Heap {
			h := Build(l[:len(l)/2])
			for _, x := range l[len(l)/2:] {
				h.Push(x)
			}
			return h
		},
	}
}

// bounded is an entry whose bound and ID are one number.
func bounded(n int) key.Entry {
	return key.Entry{Key: key.Key{Bound: int64(n)}, ID: n}
}

func boundedAll(numbers ...int) []key.Entry {
	var l []key.Entry
	for _, n := range numbers {
		l = append(l, bounded(n))
	}
	return l
}

// edges are entries in their order that differ in one part or in some, with
// both ends of the numbers, and the same twice.
func edges() []key.Entry {
	return []key.Entry{
		{Key: key.Key{Bound: math.MinInt64, Depth: math.MaxInt, Seq: math.MinInt64}, ID: math.MinInt},
		{Key: key.Key{Bound: math.MinInt64, Depth: math.MinInt, Seq: math.MaxInt64}, ID: math.MaxInt},
		{Key: key.Key{Bound: -1, Depth: 0, Seq: 9}, ID: 9},
		{Key: key.Key{Bound: 3, Depth: 5, Seq: 9}, ID: 9},
		{Key: key.Key{Bound: 3, Depth: 4, Seq: 1}, ID: 7},
		{Key: key.Key{Bound: 3, Depth: 4, Seq: 2}, ID: math.MinInt},
		{Key: key.Key{Bound: 3, Depth: 4, Seq: 2}, ID: 1},
		{Key: key.Key{Bound: 3, Depth: 4, Seq: 2}, ID: 1},
		{Key: key.Key{Bound: 3, Depth: 4, Seq: 2}, ID: math.MaxInt},
		{Key: key.Key{Bound: math.MaxInt64, Depth: math.MaxInt, Seq: math.MinInt64}, ID: 0},
		{Key: key.Key{Bound: math.MaxInt64, Depth: math.MinInt, Seq: math.MaxInt64}, ID: math.MaxInt},
	}
}

// dice tells numbers that follow no order to be seen, the same in each run.
type dice uint64

func (d *dice) roll(n int) int {
	*d = *d*6364136223846793005 + 1442695040888963407
	return int(uint64(*d)>>33) % n
}

func (d *dice) shuffled(l []key.Entry) []key.Entry {
	s := slices.Clone(l)
	for i := len(s) - 1; i > 0; i-- {
		k := d.roll(i + 1)
		s[i], s[k] = s[k], s[i]
	}
	return s
}
