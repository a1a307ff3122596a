// Package sample has what the tests of several layers have in common: of those
// that keep entries, entries and a plain list that heaps are held against; of
// those that are handed instances, such as may be and such as mayn't; and dice.
// The program itself calls nothing of it.
package sample

import (
	"math"
	"slices"

	"secateur/key"
)

// Bounded is an entry whose bound and ID are one number.
func Bounded(n int) key.Entry {
	return key.Entry{Key: key.Key{Bound: int64(n)}, ID: n}
}

// BoundedAll is such an entry for each number.
func BoundedAll(numbers ...int) []key.Entry {
	var l []key.Entry
	for _, n := range numbers {
		l = append(l, Bounded(n))
	}
	return l
}

// Edges are entries in their order: unlike in one part, or in parts that speak
// against one another, with both ends of the numbers, and the same twice.
func Edges() []key.Entry {
	return []key.Entry{
		{Key: key.Key{Bound: math.MinInt64, Depth: math.MaxInt, Seq: math.MaxInt64}, ID: math.MaxInt},
		{Key: key.Key{Bound: math.MinInt64, Depth: math.MinInt, Seq: math.MinInt64}, ID: math.MinInt},
		{Key: key.Key{Bound: -2, Depth: 1, Seq: 9}, ID: 9},
		{Key: key.Key{Bound: 4, Depth: 7, Seq: 8}, ID: 6},
		{Key: key.Key{Bound: 4, Depth: 6, Seq: math.MinInt64}, ID: 8},
		{Key: key.Key{Bound: 4, Depth: 6, Seq: 0}, ID: math.MinInt},
		{Key: key.Key{Bound: 4, Depth: 6, Seq: 0}, ID: 2},
		{Key: key.Key{Bound: 4, Depth: 6, Seq: 0}, ID: 2},
		{Key: key.Key{Bound: 4, Depth: 6, Seq: 0}, ID: math.MaxInt},
		{Key: key.Key{Bound: 4, Depth: 6, Seq: math.MaxInt64}, ID: 1},
		{Key: key.Key{Bound: math.MaxInt64, Depth: math.MaxInt, Seq: math.MaxInt64}, ID: 3},
		{Key: key.Key{Bound: math.MaxInt64, Depth: math.MinInt, Seq: math.MinInt64}, ID: math.MinInt},
	}
}

// Overwrite makes all entries of a list unlike any that a heap is given.
func Overwrite(l []key.Entry) {
	for i := range l {
		l[i] = key.Entry{ID: -1}
	}
}

// Model is the entries that a heap is to hold, in their order.
type Model []key.Entry

// Push puts x in its place.
func (m *Model) Push(x key.Entry) {
	at := 0
	for at < len(*m) && key.Less((*m)[at], x) {
		at++
	}
	*m = slices.Insert(*m, at, x)
}

// End is the first or the last entry.
func (m *Model) End(last bool) (key.Entry, bool) {
	switch {
	case len(*m) == 0:
		return key.Entry{}, false
	case last:
		return (*m)[len(*m)-1], true
	}
	return (*m)[0], true
}

// Pop is likewise, and that one is gone.
func (m *Model) Pop(last bool) (key.Entry, bool) {
	x, ok := m.End(last)
	switch {
	case ok && last:
		*m = (*m)[:len(*m)-1]
	case ok:
		*m = (*m)[1:]
	}
	return x, ok
}

// Evict takes the n last ones, or all there are, the very last one first.
func (m *Model) Evict(n int) []key.Entry {
	var gone []key.Entry
	for len(gone) < n && len(*m) > 0 {
		x, _ := m.Pop(true)
		gone = append(gone, x)
	}
	return gone
}

// Drop takes those whose bound isn't below a number, in their order.
func (m *Model) Drop(bound int64) []key.Entry {
	var gone []key.Entry
	var left Model
	for _, x := range *m {
		if x.Key.Bound < bound {
			left = append(left, x)
		} else {
			gone = append(gone, x)
		}
	}
	*m = left
	return gone
}

// Dice tells numbers that follow no order to be seen, the same in each run.
type Dice uint64

// Roll is a number from 0 on, below n.
func (d *Dice) Roll(n int) int {
	*d = *d*6364136223846793005 + 1442695040888963407
	return int(uint64(*d)>>33) % n
}

// Shuffled is the same entries, strewn.
func (d *Dice) Shuffled(l []key.Entry) []key.Entry {
	s := slices.Clone(l)
	for i := len(s) - 1; i > 0; i-- {
		k := d.Roll(i + 1)
		s[i], s[k] = s[k], s[i]
	}
	return s
}
