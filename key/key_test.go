package key

import (
	"cmp"
	"fmt"
	"math"
	"testing"
)

// rising are numbers from the least to the greatest; neighbours at the ends,
// and such whose difference has no place in 64 bits.
var rising = []int64{math.MinInt64, math.MinInt64 + 1, math.MinInt32, -10, -9, -1, 0, 1, 9, 10, math.MaxInt32, math.MaxInt64 - 1, math.MaxInt64}

// ordered are keys of all these numbers in the order that the document tells:
// a lesser Bound first, then the greater Depth, then the lesser Seq.
func ordered(numbers []int64) []Key {
	var l []Key
	for _, bound := range numbers {
		for d := len(numbers) - 1; d >= 0; d-- {
			for _, seq := range numbers {
				l = append(l, Key{Bound: bound, Depth: int(numbers[d]), Seq: seq})
			}
		}
	}
	return l
}

// orderedEntries are entries of these keys in their order, each with IDs that rise.
func orderedEntries(keys []Key, ids ...int64) []Entry {
	var l []Entry
	for _, k := range keys {
		for _, id := range ids {
			l = append(l, Entry{Key: k, ID: int(id)})
		}
	}
	return l
}

// P4.1

func TestCompare(t *testing.T) {
	l := ordered([]int64{math.MinInt64, math.MinInt64 + 1, -1, 0, 1, math.MaxInt64 - 1, math.MaxInt64})
	for i, a := range l {
		for k, b := range l {
			if got := Compare(a, b); got != cmp.Compare(i, k) {
				t.Fatalf("Compare(%v, %v) is %d; want %d", a, b, got, cmp.Compare(i, k))
			}
		}
	}
}

// TestCompareInOnePart: keys that are the same but for one part.
func TestCompareInOnePart(t *testing.T) {
	for _, other := range rising {
		for i, a := range rising {
			for k, b := range rising {
				want, o := cmp.Compare(i, k), int(other)
				if got := Compare(Key{a, o, other}, Key{b, o, other}); got != want {
					t.Errorf("Bound %d, %d, else %d: %d; want %d", a, b, other, got, want)
				}
				if got := Compare(Key{other, int(a), other}, Key{other, int(b), other}); got != -want {
					t.Errorf("Depth %d, %d, else %d: %d; want %d", a, b, other, got, -want)
				}
				if got := Compare(Key{other, o, a}, Key{other, o, b}); got != want {
					t.Errorf("Seq %d, %d, else %d: %d; want %d", a, b, other, got, want)
				}
			}
		}
	}
}

func TestCompareTable(t *testing.T) {
	for _, x := range []struct {
		a, b Key
		want int
	}{
		{Key{}, Key{}, 0},
		{Key{Bound: 3, Depth: 5}, Key{Bound: 3, Depth: 4}, -1},
		{Key{Bound: 3, Depth: 5}, Key{Bound: 2, Depth: 0}, 1},
		{Key{Bound: 3, Depth: 5, Seq: 7}, Key{Bound: 3, Depth: 5, Seq: 7}, 0},
		{Key{Bound: 3, Depth: 5, Seq: 6}, Key{Bound: 3, Depth: 5, Seq: 7}, -1},
		{Key{Bound: 3, Depth: 5, Seq: 9}, Key{Bound: 3, Depth: 4, Seq: 1}, -1},
		{Key{Bound: -2, Depth: 0, Seq: 9}, Key{Bound: -1, Depth: 9, Seq: 0}, -1},
		{Key{Bound: math.MinInt64}, Key{Bound: math.MaxInt64}, -1},
		{Key{Depth: math.MinInt}, Key{Depth: math.MaxInt}, 1},
		{Key{Seq: math.MinInt64}, Key{Seq: math.MaxInt64}, -1},
	} {
		if got := Compare(x.a, x.b); got != x.want {
			t.Errorf("Compare(%v, %v) is %d; want %d", x.a, x.b, got, x.want)
		}
		if got := Compare(x.b, x.a); got != -x.want {
			t.Errorf("Compare(%v, %v) is %d; want %d", x.b, x.a, got, -x.want)
		}
	}
}

func TestLess(t *testing.T) {
	few := []int64{math.MinInt64, 0, 1, math.MaxInt64}
	l := orderedEntries(ordered(few), math.MinInt, math.MinInt+1, -1, 0, 1, math.MaxInt-1, math.MaxInt)
	for i, a := range l {
		for k, b := range l {
			if got := Less(a, b); got != (i < k) {
				t.Fatalf("Less(%v, %v) is %v; want %v", a, b, got, i < k)
			}
		}
	}
}

func TestLessByIDAlone(t *testing.T) {
	k := Key{Bound: 3, Depth: 5, Seq: 7}
	for i, a := range rising {
		for n, b := range rising {
			if got := Less(Entry{k, int(a)}, Entry{k, int(b)}); got != (i < n) {
				t.Errorf("IDs %d, %d of one key: %v; want %v", a, b, got, i < n)
			}
		}
	}
	if Less(Entry{}, Entry{}) || Less(Entry{k, 4}, Entry{k, 4}) {
		t.Errorf("an entry comes ahead of itself")
	}
	ahead := Key{Bound: 3, Depth: 6, Seq: 7}
	if !Less(Entry{ahead, 9}, Entry{k, 1}) || Less(Entry{k, 1}, Entry{ahead, 9}) {
		t.Errorf("the ID comes ahead of the key")
	}
}

// P4.2

func TestText(t *testing.T) {
	for _, x := range []struct {
		k    Key
		want string
	}{
		{Key{}, "0 0 0"},
		{Key{Bound: 3, Depth: 5, Seq: 7}, "3 5 7"},
		{Key{Bound: -5, Depth: 1, Seq: 9}, "-5 1 9"},
		{Key{Bound: 10, Depth: -20, Seq: -30}, "10 -20 -30"},
		{Key{Bound: 1000000, Depth: 42, Seq: 1}, "1000000 42 1"},
		{Key{math.MinInt64, math.MinInt, math.MinInt64}, "-9223372036854775808 -9223372036854775808 -9223372036854775808"},
		{Key{math.MaxInt64, math.MaxInt, math.MaxInt64}, "9223372036854775807 9223372036854775807 9223372036854775807"},
		{Key{math.MinInt64, math.MaxInt, 0}, "-9223372036854775808 9223372036854775807 0"},
	} {
		if got := x.k.Text(); got != x.want {
			t.Errorf("%#v: %q; want %q", x.k, got, x.want)
		}
	}
	for _, k := range ordered(rising) {
		if got, want := k.Text(), fmt.Sprintf("%d %d %d", k.Bound, k.Depth, k.Seq); got != want {
			t.Errorf("%#v: %q; want %q", k, got, want)
		}
	}
}
