package bitset

import (
	"math"
	"slices"
	"testing"

	"secateur/api"
)

// sizes: the ends of what is allowed, and those at and beside the ends of words.
var sizes = []int{0, 1, 2, 5, 62, 63, 64, 65, 66, 127, 128, 129, 130, 191, 192, 193, 4032, 4033, 4094, 4095, 4096}

// model is a set in the plainest way: a bool for each number up to the size.
// The tests hold Set against it.
type model []bool

func (m model) has(i int) bool {
	return 0 <= i && i < len(m) && m[i]
}

func (m model) list() []int {
	var l []int
	for i, in := range m {
		if in {
			l = append(l, i)
		}
	}
	return l
}

// sifted is the model of a size of all numbers that keep says.
func sifted(size int, keep func(i int) bool) model {
	m := make(model, size)
	for i := range m {
		m[i] = keep(i)
	}
	return m
}

// models are sets of a size: none, all, every third, whole words, mixed ones,
// single ones at the ends of words, all but such.
func models(size int) []model {
	l := []model{
		sifted(size, func(int) bool { return false }),
		sifted(size, func(int) bool { return true }),
		sifted(size, func(i int) bool { return i%3 == 0 }),
		sifted(size, func(i int) bool { return i/64%2 == 1 }),
		sifted(size, func(i int) bool { return i*i%7 == 2 }),
		sifted(size, func(i int) bool { return i*i*i%11 > 5 }),
		sifted(size, func(i int) bool { return i == size-1 }),
	}
	if size > 200 { // of the great ones these are enough, and take their time
		return l
	}
	for _, n := range []int{0, 63, 64, 128} {
		l = append(l, sifted(size, func(i int) bool { return i == n }))
		l = append(l, sifted(size, func(i int) bool { return i != n }))
	}
	return append(l, sifted(size, func(i int) bool { return i != size-1 }))
}

func modelsOf(sizes ...int) []model {
	var l []model
	for _, size := range sizes {
		l = append(l, models(size)...)
	}
	return l
}

// of is the Set of a size with these numbers.
func of(t testing.TB, size int, numbers ...int) Set {
	t.Helper()
	s, e := New(size)
	if e != api.OK {
		t.Fatalf("New(%d): %v", size, e)
	}
	for _, i := range numbers {
		s = s.With(i)
	}
	return s
}

// made is the Set of a model.
func made(t testing.TB, m model) Set {
	t.Helper()
	return of(t, len(m), m.list()...)
}

// same tests that a set is just what a model says: also Count and Last, which
// would see a stray bit from the size on.
func same(t testing.TB, what string, s Set, m model) {
	t.Helper()
	l := m.list()
	if s.Size() != len(m) || !slices.Equal(s.List(), l) || s.Count() != len(l) || s.Last() != greatest(l) {
		t.Errorf("%s: size %d, count %d, last %d, %v; want size %d, %v", what, s.Size(), s.Count(), s.Last(), s.List(), len(m), l)
	}
}

func greatest(rising []int) int {
	if len(rising) == 0 {
		return -1
	}
	return rising[len(rising)-1]
}

// places are numbers to ask a set of that size for: inside, about the ends of
// words, below 0, at the size and beyond it.
func places(size int) []int {
	l := []int{math.MinInt, math.MinInt + 1, -4097, -65, -64, -63, -2, -1, 0, 1, 2, 31, 32, 4095, 4096, 4097, 1 << 40, math.MaxInt - 1, math.MaxInt}
	for _, edge := range []int{64, 128, 192, 256, 4032, size} {
		l = append(l, edge-1, edge, edge+1)
	}
	return append(l, size/2, size+63, size+64)
}
