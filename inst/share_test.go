package inst

import (
	"testing"
	"unsafe"
)

// P9.2's lists of its own, rules 4 and 7, and P1 and P2

// full is an instance with something in each field.
func full() Inst {
	return Inst{
		Kind: Cover, Cap: 7, Size: 9,
		Items: []Item{{1, 2}, {3, 4}}, Cost: [][]int64{{1, 2, 3}, {4}, {5, 6}}, Sets: []Set{{5, []int{0, 2}}, {6, []int{1}}},
	}
}

// writes are all that can be written to an instance, at each depth.
func writes() map[string]func(*Inst) {
	return map[string]func(*Inst){
		"Kind": func(i *Inst) { i.Kind = Tsp }, "Cap": func(i *Inst) { i.Cap = 99 }, "Size": func(i *Inst) { i.Size = 99 },
		"Items": func(i *Inst) { i.Items = nil }, "Cost": func(i *Inst) { i.Cost = nil }, "Sets": func(i *Inst) { i.Sets = nil },
		"an item": func(i *Inst) { i.Items[0] = Item{99, 99} }, "a Value": func(i *Inst) { i.Items[1].Value = 99 }, "a Weight": func(i *Inst) { i.Items[1].Weight = 99 },
		"a row": func(i *Inst) { i.Cost[1] = nil }, "a number": func(i *Inst) { i.Cost[0][2] = 99 }, "a row's last": func(i *Inst) { i.Cost[2][1] = 99 },
		"a set": func(i *Inst) { i.Sets[0] = Set{} }, "a Cost": func(i *Inst) { i.Sets[1].Cost = 99 }, "a set's Elems": func(i *Inst) { i.Sets[1].Elems = nil },
		"an element": func(i *Inst) { i.Sets[0].Elems[1] = 99 }, "a last element": func(i *Inst) { i.Sets[1].Elems[0] = 99 },
		"one more item": func(i *Inst) { i.Items = append(i.Items, Item{99, 99}) }, "one more row": func(i *Inst) { i.Cost = append(i.Cost, nil) },
		"one more number": func(i *Inst) { i.Cost[0] = append(i.Cost[0], 99) }, "one more set": func(i *Inst) { i.Sets = append(i.Sets, Set{}) },
		"one more element": func(i *Inst) { i.Sets[0].Elems = append(i.Sets[0].Elems, 99) },
	}
}

// TestCopyInBothDirections: what is written to a copy, the one it was made of
// hasn't, nor another copy; and the other way round.
func TestCopyInBothDirections(t *testing.T) {
	for name, write := range writes() {
		a, want := full(), text(full())
		b, c := a.Copy(), a.Copy()
		d := b.Copy()
		write(&b)
		if text(b) == want || text(a) != want || text(c) != want || text(d) != want {
			t.Errorf("P9.2: %s of a copy was written: it is %v; the others are %v, %v, %v", name, b, a, c, d)
		}
		write(&a)
		if text(a) == want || text(c) != want || text(d) != want {
			t.Errorf("P9.2: %s was written: it is %v; copies are %v, %v", name, a, c, d)
		}
	}
}

// spans are the memory that an instance's lists take up, with what lies behind
// each list.
func spans(i Inst) [][2]uintptr {
	l := [][2]uintptr{span(i.Items), span(i.Cost), span(i.Sets)}
	for _, row := range i.Cost {
		l = append(l, span(row))
	}
	for _, x := range i.Sets {
		l = append(l, span(x.Elems))
	}
	return l
}

func span[T any](l []T) [2]uintptr {
	var x T
	from := uintptr(unsafe.Pointer(unsafe.SliceData(l)))
	return [2]uintptr{from, from + uintptr(cap(l))*unsafe.Sizeof(x)}
}

// TestCopySharesNoMemory: no list of a copy shares any with what it was made
// of, or with another of its lists, not even behind their lengths; nor does an
// empty one hold on to any.
func TestCopySharesNoMemory(t *testing.T) {
	row, elems := []int64{1, 2, 3, 4, 5, 6}, []int{0, 1, 2, 3}
	for _, a := range []Inst{
		full(),
		{Items: make([]Item, 3, 9), Cost: [][]int64{row[:2], row[2:4], row[4:]}, Sets: []Set{{1, elems[:1]}, {2, elems[1:]}}},
		{Items: make([]Item, 5), Cost: [][]int64{row, row, row}, Sets: []Set{{1, elems}, {2, elems}, {3, elems[:2]}}},
		{Items: make([]Item, 0, 9), Cost: make([][]int64, 0, 9), Sets: make([]Set, 0, 9)},
		{Cost: [][]int64{row[:0], row[:0]}, Sets: []Set{{1, elems[:0]}, {2, elems[:0]}}},
	} {
		b := a.Copy()
		own := spans(b)
		for n, x := range own {
			for _, y := range append(spans(a), own[:n]...) {
				if x[0] < y[1] && y[0] < x[1] || x[0] == y[0] && x[0] != 0 {
					t.Errorf("rule 4: the list %d of the copy of %v shares memory", n, a)
				}
			}
		}
	}
}

// TestBehindLists: what lies behind a list's length makes no difference, and
// isn't handed on.
func TestBehindLists(t *testing.T) {
	items, sets := []Item{{1, 2}, {-9, -9}}, []Set{{1, []int{0}}, {-9, []int{-9}}}
	cost, row, elems := [][]int64{{0}, {-9, -9}}, []int64{0, -9}, []int{0, -9}
	for _, i := range []Inst{
		{Items: items[:1]}, {Kind: Assignment, Cost: cost[:1]}, {Kind: Tsp, Cost: [][]int64{row[:1]}},
		{Kind: Cover, Size: 1, Sets: sets[:1]}, {Kind: Cover, Size: 1, Sets: []Set{{1, elems[:1]}}},
	} {
		copied := i.Copy()
		again := copied.Copy()
		if i.Check() != 0 || !Equal(i, copied) || !Equal(copied, again) || text(copied) != text(i) {
			t.Errorf("rule 4: Check of %v is %d, its copy is %v", i, i.Check(), copied)
		}
		copied.Items, copied.Cost, copied.Sets = copied.Items[:cap(copied.Items)], copied.Cost[:cap(copied.Cost)], copied.Sets[:cap(copied.Sets)]
		for r, l := range copied.Cost {
			copied.Cost[r] = l[:cap(l)]
		}
		for s, x := range copied.Sets {
			copied.Sets[s].Elems = x.Elems[:cap(x.Elems)]
		}
		if behind := beyond(copied); behind {
			t.Errorf("rule 4: the copy of %v has what lies behind its lists: %v", i, copied)
		}
	}
}

// beyond: is there a number below 0?
func beyond(i Inst) bool {
	for _, x := range i.Items {
		if x.Value < 0 || x.Weight < 0 {
			return true
		}
	}
	for _, row := range i.Cost {
		for _, n := range row {
			if n < 0 {
				return true
			}
		}
	}
	for _, x := range i.Sets {
		if x.Cost < 0 {
			return true
		}
		for _, n := range x.Elems {
			if n < 0 {
				return true
			}
		}
	}
	return false
}

// TestHandedInStays: no call changes what it is handed, or tells something else
// the second time.
func TestHandedInStays(t *testing.T) {
	for _, a := range append(fields(), full()) {
		want := text(a)
		e, n, copied := a.Check(), a.N(), a.Copy()
		if !Equal(a, copied) || !Equal(copied, a) || text(a) != want || text(copied) != want {
			t.Errorf("rule 4: %s became %v, and its copy is %v", want, a, copied)
		}
		if a.Check() != e || a.N() != n || text(a.Copy()) != want {
			t.Errorf("rule 7: of %v is told %d, %d, and then %d, %d", a, e, n, a.Check(), a.N())
		}
	}
}
