package bitset

import (
	"math"
	"slices"
	"testing"

	"secateur/api"
)

// P3.1

func TestSizesOfNewAndFull(t *testing.T) {
	for size := 0; size <= api.MaxN; size++ {
		s, e := New(size)
		if e != api.OK || s.Size() != size || s.Count() != 0 || len(s.List()) != 0 || s.Next(0) != -1 {
			t.Fatalf("New(%d): %v, size %d, %v", size, e, s.Size(), s.List())
		}
		f, e := Full(size)
		if e != api.OK || f.Size() != size || f.Count() != size || f.Last() != size-1 {
			t.Fatalf("Full(%d): %v, size %d, count %d", size, e, f.Size(), f.Count())
		}
	}
	for _, size := range sizes {
		s, _ := New(size)
		same(t, "New", s, sifted(size, func(int) bool { return false }))
		f, _ := Full(size)
		same(t, "Full", f, sifted(size, func(int) bool { return true }))
	}
}

func TestSizesThatAreRefused(t *testing.T) {
	for _, size := range []int{-1, -2, -64, api.MaxN + 1, api.MaxN + 64, math.MinInt, math.MinInt + 1, math.MaxInt - 1, math.MaxInt, 1 << 32} {
		for name, call := range map[string]func(int) (Set, api.Errno){"New": New, "Full": Full} {
			s, e := call(size)
			if e != api.ErrArg || s.Size() != 0 || s.Count() != 0 || !s.Equal(Set{}) {
				t.Errorf("%s(%d): %v, size %d, %v; want %v and the zero Set", name, size, e, s.Size(), s.List(), api.ErrArg)
			}
		}
	}
}

func TestZeroSet(t *testing.T) {
	var z Set
	same(t, "the zero Set", z, model{})
	for _, i := range places(0) {
		if z.Has(i) || z.Next(i) != -1 || z.Rank(i) != 0 || z.With(i).Size() != 0 || z.With(i).Has(i) || !z.Without(i).Equal(z) {
			t.Errorf("the zero Set, asked for %d", i)
		}
	}
	s, f := of(t, 0), of(t, 70, 0, 69)
	if !z.Equal(s) || !s.Equal(z) || z.Equal(f) || !z.Within(f) || f.Within(z) || !z.Within(z) {
		t.Errorf("the zero Set held against others")
	}
	for name, got := range map[string]Set{"Or": z.Or(f), "And": z.And(f), "Less": z.Less(f), "Xor": z.Xor(f)} {
		same(t, "of the zero Set: "+name, got, model{})
	}
	if !f.Or(z).Equal(f) || f.And(z).Count() != 0 || f.And(z).Size() != 70 || !f.Less(z).Equal(f) || !f.Xor(z).Equal(f) {
		t.Errorf("a set joined with the zero Set")
	}
	if Compare(z, z) != 0 || Compare(z, f) != -1 || Compare(f, z) != 1 || Compare(z, of(t, 200)) != 0 {
		t.Errorf("the zero Set compared")
	}
}

func TestAskingFor(t *testing.T) {
	for _, m := range modelsOf(sizes...) {
		s, l := made(t, m), m.list()
		same(t, "made", s, m)
		for _, i := range append(places(len(m)), 3, 6) {
			if s.Has(i) != m.has(i) {
				t.Errorf("size %d, %v: Has(%d) is %v", len(m), l, i, s.Has(i))
			}
			at, next := len(l), -1
			for k, n := range l {
				if n >= i {
					at, next = k, n
					break
				}
			}
			if s.Next(i) != next {
				t.Errorf("size %d, %v: Next(%d) is %d; want %d", len(m), l, i, s.Next(i), next)
			}
			if s.Rank(i) != at {
				t.Errorf("size %d, %v: Rank(%d) is %d; want %d", len(m), l, i, s.Rank(i), at)
			}
		}
	}
}

// TestAskingForEveryNumber leaves out no number of a set, nor the 70 about it.
func TestAskingForEveryNumber(t *testing.T) {
	for _, size := range []int{0, 1, 63, 64, 65, 128, 130, 193} {
		for _, m := range models(size) {
			s, l := made(t, m), m.list()
			for i, rank := -70, 0; i <= size+70; i++ {
				next := -1
				if rank < len(l) {
					next = l[rank]
				}
				if s.Has(i) != m.has(i) || s.Next(i) != next || s.Rank(i) != rank {
					t.Fatalf("size %d, %v, asked for %d: %v, next %d, rank %d; want %v, %d, %d", size, l, i, s.Has(i), s.Next(i), s.Rank(i), m.has(i), next, rank)
				}
				if m.has(i) {
					rank++
				}
			}
		}
	}
}

func TestExampleOfNext(t *testing.T) {
	f, _ := Full(5)
	s := f.Without(2)
	if s.Next(2) != 3 || s.Next(1) != 1 || s.Next(4) != 4 || s.Next(5) != -1 || s.Next(-1) != 0 {
		t.Errorf("of %v: Next(2) is %d; want 3", s.List(), s.Next(2))
	}
}

// Rule 4: a list is its receiver's own.
func TestListsAreNew(t *testing.T) {
	s := of(t, 130, 0, 64, 129)
	a, b := s.List(), s.List()
	a[0], a[1] = 7, 8
	a = append(a, 9)
	want := []int{0, 64, 129}
	if !slices.Equal(b, want) || !slices.Equal(s.List(), want) || len(a) != 4 {
		t.Errorf("after a list was written: %v, %v; want %v", b, s.List(), want)
	}
}

// P3.2

func TestWithAndWithout(t *testing.T) {
	for _, m := range modelsOf(sizes...) {
		s := made(t, m)
		for _, i := range places(len(m)) {
			inside := 0 <= i && i < len(m)
			same(t, "With", s.With(i), sifted(len(m), func(n int) bool { return m.has(n) || inside && n == i }))
			same(t, "Without", s.Without(i), sifted(len(m), func(n int) bool { return m.has(n) && n != i }))
			same(t, "With and Without leave the set", s, m)
			if !inside && (!s.With(i).Equal(s) || !s.Without(i).Equal(s)) {
				t.Errorf("size %d: With or Without %d isn't the set itself", len(m), i)
			}
			if t.Failed() {
				t.Fatalf("size %d, %v, with or without %d", len(m), m.list(), i)
			}
		}
	}
}

// TestSetsOfOneSet: what is made of one set has nothing to do with what else
// is made of it, also where that one was handed through as it is.
func TestSetsOfOneSet(t *testing.T) {
	s := of(t, 130, 5, 64)
	a, b, c := s.With(129), s.With(0), s.Without(64)
	itself := s.With(130).Without(-1).With(math.MaxInt)
	d, e := itself.With(63), itself.Without(5)
	for _, x := range []struct {
		name string
		got  Set
		want []int
	}{
		{"s", s, []int{5, 64}}, {"a", a, []int{5, 64, 129}}, {"b", b, []int{0, 5, 64}}, {"c", c, []int{5}},
		{"itself", itself, []int{5, 64}}, {"d", d, []int{5, 63, 64}}, {"e", e, []int{64}},
		{"again", s.With(5), []int{5, 64}}, {"not there", s.Without(6), []int{5, 64}},
	} {
		if !slices.Equal(x.got.List(), x.want) || x.got.Size() != 130 {
			t.Errorf("%s is %v; want %v", x.name, x.got.List(), x.want)
		}
	}
}
