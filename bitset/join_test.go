package bitset

import "testing"

// pairs hands on each two sets, of all sizes, alike and unlike.
func pairs(t *testing.T, f func(m, n model, s, o Set)) {
	t.Helper()
	type both struct {
		m model
		s Set
	}
	var l []both
	for _, m := range modelsOf(0, 1, 5, 63, 64, 65, 127, 128, 130, 4095, 4096) {
		l = append(l, both{m, made(t, m)})
	}
	for _, x := range l {
		for _, y := range l {
			f(x.m, y.m, x.s, y.s)
			if t.Failed() {
				t.Fatalf("of size %d, %v, and size %d, %v", len(x.m), x.m.list(), len(y.m), y.m.list())
			}
		}
	}
}

// joined tests one set of two against the rule for a number.
func joined(t *testing.T, name string, got Set, m, n model, rule func(a, b bool) bool) {
	t.Helper()
	count := 0
	for i := range len(m) {
		want := rule(m.has(i), n.has(i))
		if want {
			count++
		}
		if got.Has(i) != want {
			t.Errorf("%s: Has(%d) is %v", name, i, got.Has(i))
			return
		}
	}
	if got.Size() != len(m) || got.Count() != count || got.Has(len(m)) || got.Last() >= len(m) {
		t.Errorf("%s: size %d, count %d, last %d; want size %d, count %d", name, got.Size(), got.Count(), got.Last(), len(m), count)
	}
}

// P3.3, and Xor of P3.4

func TestJoins(t *testing.T) {
	pairs(t, func(m, n model, s, o Set) {
		joined(t, "Or", s.Or(o), m, n, func(a, b bool) bool { return a || b })
		joined(t, "And", s.And(o), m, n, func(a, b bool) bool { return a && b })
		joined(t, "Less", s.Less(o), m, n, func(a, b bool) bool { return a && !b })
		joined(t, "Xor", s.Xor(o), m, n, func(a, b bool) bool { return a != b })
		joined(t, "the first one afterwards", s, m, n, func(a, _ bool) bool { return a })
		joined(t, "the second one afterwards", o, n, m, func(a, _ bool) bool { return a })
	})
}

func TestJoinTable(t *testing.T) {
	small, long := of(t, 3, 0, 1), of(t, 130, 1, 2, 3, 63, 64, 129)
	for _, x := range []struct {
		name string
		got  Set
		want Set
	}{
		{"small Or long", small.Or(long), of(t, 3, 0, 1, 2)},
		{"long Or small", long.Or(small), of(t, 130, 0, 1, 2, 3, 63, 64, 129)},
		{"small And long", small.And(long), of(t, 3, 1)},
		{"long And small", long.And(small), of(t, 130, 1)},
		{"small Less long", small.Less(long), of(t, 3, 0)},
		{"long Less small", long.Less(small), of(t, 130, 2, 3, 63, 64, 129)},
		{"small Xor long", small.Xor(long), of(t, 3, 0, 2)},
		{"long Xor small", long.Xor(small), of(t, 130, 0, 2, 3, 63, 64, 129)},
		{"with itself: Or", long.Or(long), long},
		{"with itself: And", long.And(long), long},
		{"with itself: Less", long.Less(long), of(t, 130)},
		{"with itself: Xor", long.Xor(long), of(t, 130)},
		{"one word, the end unlike", of(t, 63, 62).Or(of(t, 64, 62, 63)), of(t, 63, 62)},
		{"one word, the end unlike", of(t, 63, 62).Xor(of(t, 64, 62, 63)), of(t, 63)},
		{"one word more", of(t, 64, 63).Or(of(t, 65, 0, 64)), of(t, 64, 0, 63)},
		{"one word less", of(t, 65, 0, 64).Less(of(t, 64, 0, 63)), of(t, 65, 64)},
	} {
		if !x.got.Equal(x.want) {
			t.Errorf("%s: size %d, %v; want size %d, %v", x.name, x.got.Size(), x.got.List(), x.want.Size(), x.want.List())
		}
	}
}

// TestJoinsAreNew: what is made of a joined set leaves both it was joined of.
func TestJoinsAreNew(t *testing.T) {
	s, o := of(t, 130, 5, 64), of(t, 130, 64, 129)
	for name, got := range map[string]Set{"Or": s.Or(o), "And": s.And(o), "Less": s.Less(o), "Xor": s.Xor(o)} {
		before := got.List()
		changed := got.With(7).Without(5).Without(64).Without(129)
		if !got.Equal(of(t, 130, before...)) || !changed.Equal(of(t, 130, 7)) {
			t.Errorf("%s: %v became %v, and %v was made of it", name, before, got.List(), changed.List())
		}
	}
	if !s.Equal(of(t, 130, 5, 64)) || !o.Equal(of(t, 130, 64, 129)) {
		t.Errorf("what was joined is now %v, %v", s.List(), o.List())
	}
}

func TestWithinAndEqual(t *testing.T) {
	pairs(t, func(m, n model, s, o Set) {
		within, alike := true, true
		for i := range max(len(m), len(n)) {
			within = within && (!m.has(i) || n.has(i))
			alike = alike && m.has(i) == n.has(i)
		}
		if s.Within(o) != within {
			t.Errorf("Within is %v", s.Within(o))
		}
		if s.Equal(o) != (alike && len(m) == len(n)) {
			t.Errorf("Equal is %v", s.Equal(o))
		}
	})
}

func TestWithinAndEqualTable(t *testing.T) {
	for _, x := range []struct {
		name          string
		s, o          Set
		within, equal bool
	}{
		{"empty ones of unlike sizes", of(t, 3), of(t, 4), true, false},
		{"of unlike sizes and as many words", of(t, 3, 1), of(t, 64, 1), true, false},
		{"of unlike sizes and words", of(t, 64, 1), of(t, 65, 1), true, false},
		{"a shorter one", of(t, 65, 1), of(t, 64, 1), true, false},
		{"beyond the other one's size", of(t, 65, 1, 64), of(t, 64, 1), false, false},
		{"beyond it in the same word", of(t, 63, 1, 62), of(t, 62, 1), false, false},
		{"the same", of(t, 130, 0, 129), of(t, 130, 0, 129), true, true},
		{"less", of(t, 130, 129), of(t, 130, 0, 129), true, false},
		{"more", of(t, 130, 0, 129), of(t, 130, 129), false, false},
		{"apart", of(t, 130, 0), of(t, 130, 64), false, false},
	} {
		if x.s.Within(x.o) != x.within || x.s.Equal(x.o) != x.equal {
			t.Errorf("%s: Within is %v, Equal %v; want %v, %v", x.name, x.s.Within(x.o), x.s.Equal(x.o), x.within, x.equal)
		}
	}
}

// P3.4

// order is Compare by its words: by the greatest number that just one has.
func order(m, n model) int {
	for i := max(len(m), len(n)) - 1; i >= 0; i-- {
		if m.has(i) != n.has(i) {
			if m.has(i) {
				return 1
			}
			return -1
		}
	}
	return 0
}

func TestCompare(t *testing.T) {
	pairs(t, func(m, n model, s, o Set) {
		if got := Compare(s, o); got != order(m, n) {
			t.Errorf("Compare is %d; want %d", got, order(m, n))
		}
	})
}

func TestCompareTable(t *testing.T) {
	for _, x := range []struct {
		name string
		a, b Set
		want int
	}{
		{"empty ones", of(t, 0), of(t, 130), 0},
		{"the same of unlike sizes", of(t, 64, 1, 63), of(t, 4096, 1, 63), 0},
		{"one more", of(t, 130, 5), of(t, 130, 0, 5), -1},
		{"the greatest counts, not how many", of(t, 130, 0, 1, 2), of(t, 130, 3), -1},
		{"the greatest that just one has", of(t, 130, 3, 129), of(t, 130, 0, 1, 2, 129), 1},
		{"a lower word against an upper one", of(t, 130, 0, 63), of(t, 130, 64), -1},
		{"the upper word is the same", of(t, 130, 63, 64), of(t, 130, 62, 64), 1},
		{"a word's highest bit", of(t, 64, 63), of(t, 64, 62, 61, 0), 1},
		{"beyond the other one's words", of(t, 65, 64), of(t, 64, 0, 63), 1},
		{"the longer one has less", of(t, 4096, 62), of(t, 64, 63), -1},
	} {
		if Compare(x.a, x.b) != x.want || Compare(x.b, x.a) != -x.want {
			t.Errorf("%s: Compare is %d, and %d turned round; want %d", x.name, Compare(x.a, x.b), Compare(x.b, x.a), x.want)
		}
	}
}

func TestLastAndRankTable(t *testing.T) {
	for _, size := range sizes {
		f, _ := Full(size)
		if f.Last() != size-1 || f.Rank(size) != size || f.Rank(size-1) != max(size-1, 0) || of(t, size).Last() != -1 {
			t.Errorf("Full(%d): Last is %d, Rank(%d) is %d", size, f.Last(), size, f.Rank(size))
		}
	}
	s := of(t, 130, 0, 63, 64, 129)
	for i, want := range map[int]int{-1: 0, 0: 0, 1: 1, 63: 1, 64: 2, 65: 3, 128: 3, 129: 3, 130: 4, 131: 4} {
		if s.Rank(i) != want {
			t.Errorf("Rank(%d) is %d; want %d", i, s.Rank(i), want)
		}
	}
	if s.Last() != 129 || s.Without(129).Last() != 64 || s.Without(129).Without(64).Last() != 63 {
		t.Errorf("Last is %d", s.Last())
	}
}
