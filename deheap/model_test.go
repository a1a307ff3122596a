package deheap

import (
	"slices"
	"testing"

	"secateur/api"
	"secateur/key"
	"secateur/sample"
)

// pair is a heap of each kind, to which the same is done, and what both are
// to hold.
type pair struct {
	heaps [Kinds]*Heap
	most  int
	model sample.Model
}

// end is what a call tells of one entry.
type end struct {
	x  key.Entry
	ok bool
}

// bulked is a pair of heaps with some entries; it has room for all of them.
func bulked(t *testing.T, most int, l []key.Entry) *pair {
	t.Helper()
	p := &pair{most: most, model: key.Sort(l)}
	for k := range Kinds {
		h, e := Bulk(k, most, l)
		if h == nil || e != api.OK {
			t.Fatalf("Bulk(%d, %d, %v) is %v, %d", k, most, l, h, e)
		}
		p.heaps[k] = h
	}
	return p
}

// pushed is likewise, but its heaps are made empty.
func pushed(t *testing.T, most int, l []key.Entry) *pair {
	t.Helper()
	p := &pair{most: most}
	for k := range Kinds {
		h, e := New(k, most)
		if h == nil || e != api.OK {
			t.Fatalf("New(%d, %d) is %v, %d", k, most, h, e)
		}
		p.heaps[k] = h
	}
	for _, x := range l {
		p.push(t, x)
	}
	return p
}

// makers are the ways to a pair with some entries.
func makers() map[string]func(t *testing.T, most int, l []key.Entry) *pair {
	return map[string]func(t *testing.T, most int, l []key.Entry) *pair{"bulked": bulked, "pushed": pushed}
}

// tell tests what both heaps tell, against each other and against the model.
func tell[T comparable](t *testing.T, p *pair, what string, ask func(*Heap) T, want T) {
	t.Helper()
	one, other := ask(p.heaps[MinMax]), ask(p.heaps[Interval])
	if one != other {
		t.Fatalf("%s of the kinds is unlike: %v, and %v", what, one, other)
	}
	if one != want {
		t.Fatalf("%s is %v; want %v of %v", what, one, want, p.model)
	}
}

// tellList is likewise, of lists.
func tellList(t *testing.T, p *pair, what string, ask func(*Heap) []key.Entry, want []key.Entry) {
	t.Helper()
	one, other := ask(p.heaps[MinMax]), ask(p.heaps[Interval])
	if !slices.Equal(one, other) {
		t.Fatalf("%s of the kinds is unlike: %v, and %v", what, one, other)
	}
	if !slices.Equal(one, want) {
		t.Fatalf("%s is %v; want %v", what, one, want)
	}
}

// push pushes x, or, if the pair is full, is refused.
func (p *pair) push(t *testing.T, x key.Entry) {
	t.Helper()
	want := api.OK
	if len(p.model) == p.most {
		want = api.ErrFull
	} else {
		p.model.Push(x)
	}
	tell(t, p, "Push", func(h *Heap) api.Errno { return h.Push(x) }, want)
}

func (p *pair) pop(t *testing.T, last bool) {
	t.Helper()
	what, ask := "PopMin", (*Heap).PopMin
	if last {
		what, ask = "PopMax", (*Heap).PopMax
	}
	x, ok := p.model.Pop(last)
	tell(t, p, what, asked(ask), end{x, ok})
}

func (p *pair) evict(t *testing.T, n int) {
	t.Helper()
	tellList(t, p, "Evict", func(h *Heap) []key.Entry { return h.Evict(n) }, p.model.Evict(n))
}

func (p *pair) drop(t *testing.T, bound int64) {
	t.Helper()
	tellList(t, p, "Drop", func(h *Heap) []key.Entry { return h.Drop(bound) }, p.model.Drop(bound))
}

// holds tests all that both heaps tell without a change, and that they tell
// the same once more.
func (p *pair) holds(t *testing.T) {
	t.Helper()
	for range 2 {
		for k, h := range p.heaps {
			if h.Kind() != Kind(k) {
				t.Fatalf("Kind is %d; want %d", h.Kind(), k)
			}
		}
		first, there := p.model.End(false)
		last, _ := p.model.End(true)
		tell(t, p, "Len", (*Heap).Len, len(p.model))
		tell(t, p, "Room", (*Heap).Room, p.most-len(p.model))
		tell(t, p, "Min", asked((*Heap).Min), end{first, there})
		tell(t, p, "Max", asked((*Heap).Max), end{last, there})
		tellList(t, p, "Sorted", (*Heap).Sorted, p.model)
	}
}

// asked is what a call tells as one value.
func asked(ask func(*Heap) (key.Entry, bool)) func(*Heap) end {
	return func(h *Heap) end {
		x, ok := ask(h)
		return end{x, ok}
	}
}
