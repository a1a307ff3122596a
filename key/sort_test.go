package key

import (
	"math"
	"slices"
	"testing"
)

// P4.1

// permuted hands on every order of the entries, in one list that it writes again.
func permuted(l []Entry, from int, f func([]Entry)) {
	if from == len(l) {
		f(l)
		return
	}
	for i := from; i < len(l); i++ {
		l[from], l[i] = l[i], l[from]
		permuted(l, from+1, f)
		l[from], l[i] = l[i], l[from]
	}
}

// strewn has the entries of l, the place of each a step on from the one
// before; the step and the length have no divisor in common.
func strewn(l []Entry, step int) []Entry {
	s := make([]Entry, len(l))
	for i, x := range l {
		s[i*step%len(l)] = x
	}
	return s
}

// sorts tests that l is sorted as want, and stays as it is.
func sorts(t *testing.T, l, want []Entry) {
	t.Helper()
	before := slices.Clone(l)
	got := Sort(l)
	if !slices.Equal(got, want) {
		t.Errorf("Sort(%v) is %v; want %v", before, got, want)
	}
	if !slices.Equal(l, before) {
		t.Errorf("Sort(%v) left %v", before, l)
	}
}

func TestSortOfNoneAndOne(t *testing.T) {
	behind := []Entry{{Key{3, 2, 1}, 9}, {Key{1, 2, 3}, 8}}
	for name, l := range map[string][]Entry{"nil": nil, "empty": {}, "cut off": behind[:0]} {
		if got := Sort(l); len(got) != 0 {
			t.Errorf("%s: Sort is %v", name, got)
		}
	}
	for _, x := range []Entry{{}, {Key{3, 5, 7}, 1}, {Key{math.MinInt64, math.MaxInt, math.MinInt64}, math.MinInt}} {
		sorts(t, []Entry{x}, []Entry{x})
	}
}

// TestSortOfAllOrders: entries that differ in each part alone, and one twice.
func TestSortOfAllOrders(t *testing.T) {
	want := []Entry{
		{Key{math.MinInt64, 0, 0}, 9},
		{Key{3, math.MaxInt, 2}, 5},
		{Key{3, 5, 1}, 2},
		{Key{3, 5, 1}, 4},
		{Key{3, 5, 1}, 4},
		{Key{3, 5, 2}, 1},
		{Key{math.MaxInt64, math.MinInt, 0}, 0},
	}
	permuted(slices.Clone(want), 0, func(l []Entry) { sorts(t, l, want) })
}

func TestSortOfMany(t *testing.T) {
	want := orderedEntries(ordered([]int64{math.MinInt64, -1, 0, 1, math.MaxInt64}), math.MinInt, -1, -1, 0, 7, 7, math.MaxInt)
	reversed := slices.Clone(want)
	slices.Reverse(reversed)
	sorts(t, want, want)
	sorts(t, reversed, want)
	for _, step := range []int{2, 3, 17, 101, 433, 874} {
		sorts(t, strewn(want, step), want)
	}
	same := slices.Repeat([]Entry{{Key{3, 5, 7}, 1}}, 500)
	sorts(t, same, same)
}

// Rule 4

func TestSortSharesNothing(t *testing.T) {
	a, b, c := Entry{Key{1, 0, 0}, 1}, Entry{Key{2, 0, 0}, 2}, Entry{Key{3, 0, 0}, 3}
	for _, in := range [][]Entry{{c, a, b}, {a, b, c}, {b}} {
		l := slices.Clone(in)
		first, second := Sort(l), Sort(l)
		want := slices.Clone(second)
		for i := range first {
			first[i] = Entry{ID: -1}
		}
		if !slices.Equal(l, in) || !slices.Equal(second, want) {
			t.Errorf("an answer for %v was written: the list is %v, another answer %v", in, l, second)
		}
		for i := range l {
			l[i] = Entry{ID: -2}
		}
		if !slices.Equal(second, want) {
			t.Errorf("the list %v was written: the answer is %v; want %v", in, second, want)
		}
	}
}

// TestSortBehindTheLength: what lies there is neither read nor written nor
// handed out.
func TestSortBehindTheLength(t *testing.T) {
	whole := []Entry{{Key{3, 0, 0}, 3}, {Key{2, 0, 0}, 2}, {Key{1, 0, 0}, 1}, {Key{0, 0, 0}, 7}}
	for n := range len(whole) + 1 {
		l := slices.Clone(whole)
		got := Sort(l[:n])
		want := slices.Clone(whole[:n])
		slices.Reverse(want)
		if !slices.Equal(got, want) {
			t.Errorf("of the first %d: %v; want %v", n, got, want)
		}
		for _, x := range got[len(got):cap(got)] {
			if x != (Entry{}) {
				t.Errorf("of the first %d: behind the answer lies %v", n, x)
			}
		}
		_ = append(got, Entry{ID: -1})
		if !slices.Equal(l, whole) {
			t.Errorf("of the first %d: the list became %v", n, l)
		}
	}
}
