package bitset

import (
	"slices"
	"testing"
)

// P3.5

// chosen are those of the numbers whose places have a bit in pick.
func chosen(numbers []int, pick int) []int {
	var l []int
	for k, n := range numbers {
		if pick>>k&1 == 1 {
			l = append(l, n)
		}
	}
	return l
}

// TestSubsets: the k-th subset has the numbers at the places of k's bits: for
// the order of Compare is that of the numbers that the bits make.
func TestSubsets(t *testing.T) {
	for _, x := range []struct {
		size    int
		numbers []int
	}{
		{0, nil}, {1, nil}, {1, []int{0}}, {3, []int{0, 1, 2}}, {5, []int{1, 3}}, {64, []int{63}}, {64, []int{0, 31, 62, 63}},
		{65, []int{64}}, {65, []int{62, 63, 64}}, {130, []int{0, 63, 64, 127, 128, 129}}, {200, []int{199}}, {200, []int{3, 199}},
		{200, nil}, {130, []int{128, 129}}, {64, []int{0, 1, 2, 3, 4, 5, 6, 7, 8, 9}}, {4096, []int{0, 1, 2000, 4032, 4095}},
	} {
		s := of(t, x.size, x.numbers...)
		var l []Set
		for sub := range s.Subsets() {
			l = append(l, sub)
		}
		if len(l) != 1<<len(x.numbers) {
			t.Errorf("of %v there are %d subsets; want %d", x.numbers, len(l), 1<<len(x.numbers))
			continue
		}
		for k, sub := range l {
			if sub.Size() != x.size || !slices.Equal(sub.List(), chosen(x.numbers, k)) {
				t.Errorf("of %v the subset %d is of size %d, %v; want %v", x.numbers, k, sub.Size(), sub.List(), chosen(x.numbers, k))
			}
			if !sub.Within(s) || k > 0 && Compare(l[k-1], sub) != -1 {
				t.Errorf("of %v the subset %d, %v, stands wrong", x.numbers, k, sub.List())
			}
		}
		if l[0].Count() != 0 || !l[len(l)-1].Equal(s) || !slices.Equal(s.List(), x.numbers) {
			t.Errorf("of %v the first is %v, the last %v", x.numbers, l[0].List(), l[len(l)-1].List())
		}
	}
}

func TestSubsetsOfAllSmall(t *testing.T) {
	numbers := []int{0, 1, 2, 3, 4, 5, 6}
	for size := range len(numbers) + 1 {
		for whole := range 1 << size {
			s := of(t, size, chosen(numbers, whole)...)
			var got, want [][]int
			for sub := range s.Subsets() {
				got = append(got, sub.List())
			}
			for pick := range whole + 1 {
				if pick&^whole == 0 {
					want = append(want, chosen(numbers, pick))
				}
			}
			if !slices.EqualFunc(got, want, slices.Equal) {
				t.Errorf("of %v: %v; want %v", s.List(), got, want)
			}
		}
	}
}

func TestSubsetsBrokenOff(t *testing.T) {
	s := of(t, 130, 5, 63, 64, 129)
	seq := s.Subsets()
	for stop := 1; stop <= 17; stop++ {
		n := 0
		seq(func(sub Set) bool {
			if n++; n > stop || !slices.Equal(sub.List(), chosen([]int{5, 63, 64, 129}, n-1)) {
				t.Errorf("to be broken off at %d: the subset %d is %v", stop, n, sub.List())
			}
			return n < stop
		})
		if n != min(stop, 16) {
			t.Errorf("to be broken off at %d: gone through %d", stop, n)
		}
	}
}

// TestSubsetsOfTheGreatest breaks off what would not end in any time.
func TestSubsetsOfTheGreatest(t *testing.T) {
	f, _ := Full(4096)
	n := 0
	for sub := range f.Subsets() {
		if want := of(t, 4096, chosen([]int{0, 1, 2, 3, 4, 5, 6, 7}, n)...); !sub.Equal(want) {
			t.Fatalf("the subset %d is %v", n, sub.List())
		}
		if n++; n == 256 {
			break
		}
	}
	if f.Count() != 4096 {
		t.Errorf("afterwards the set has %d", f.Count())
	}
}

func TestSubsetsWithinEachOther(t *testing.T) {
	s := of(t, 66, 0, 64, 65)
	seq := s.Subsets()
	outer, all := 0, 0
	for a := range seq {
		outer++
		inner := 0
		for b := range seq {
			if !slices.Equal(b.List(), chosen([]int{0, 64, 65}, inner)) {
				t.Errorf("within the subset %v: %v", a.List(), b.List())
			}
			inner++
			all++
		}
	}
	if outer != 8 || all != 64 {
		t.Errorf("%d subsets, %d within each other; want 8, 64", outer, all)
	}
}

// TestSubsetsStay: a subset that is kept, or that others are made of, stays,
// and leaves the going through as it is.
func TestSubsetsStay(t *testing.T) {
	numbers := []int{1, 63, 64, 100}
	s := of(t, 101, numbers...)
	var kept, changed []Set
	for sub := range s.Subsets() {
		kept = append(kept, sub)
		changed = append(changed, sub.With(0).Without(63))
	}
	for k, sub := range kept {
		l := chosen(numbers, k)
		if !slices.Equal(sub.List(), l) {
			t.Errorf("the subset %d is %v afterwards; want %v", k, sub.List(), l)
		}
		if !changed[k].Equal(of(t, 101, append([]int{0}, l...)...).Without(63)) {
			t.Errorf("of the subset %d was made %v", k, changed[k].List())
		}
	}
	if len(kept) != 16 || !slices.Equal(s.List(), numbers) {
		t.Errorf("%d subsets; the set is %v afterwards", len(kept), s.List())
	}
}
