package bitset

import (
	"cmp"
	"iter"
	"slices"
)

// word is a word by its place; beyond the last one there are no numbers: so
// that sets of unlike sizes are held against each other word by word.
func (s Set) word(k int) uint64 {
	if k >= len(s.words) {
		return 0
	}
	return s.words[k]
}

// join is the set of the size of s whose words f makes of those of both.
func (s Set) join(o Set, f func(a, b uint64) uint64) Set {
	t := empty(s.size)
	for k, w := range s.words {
		t.words[k] = f(w, o.word(k))
	}
	t.cut()
	return t
}

// Or: what is in one of both.
func (s Set) Or(o Set) Set {
	return s.join(o, func(a, b uint64) uint64 { return a | b })
}

// And: what is in both.
func (s Set) And(o Set) Set {
	return s.join(o, func(a, b uint64) uint64 { return a & b })
}

// Less: what is in the first one alone.
func (s Set) Less(o Set) Set {
	return s.join(o, func(a, b uint64) uint64 { return a &^ b })
}

// Xor: what is in just one of both.
func (s Set) Xor(o Set) Set {
	return s.join(o, func(a, b uint64) uint64 { return a ^ b })
}

// Within: is all of it in another one?
func (s Set) Within(o Set) bool {
	for k, w := range s.words {
		if w&^o.word(k) != 0 {
			return false
		}
	}
	return true
}

// Equal: are both the same?
func (s Set) Equal(o Set) bool {
	return s.size == o.size && slices.Equal(s.words, o.words)
}

// backward goes through the first count words of s with their places, the
// greatest place first.
func (s Set) backward(count int) iter.Seq2[int, uint64] {
	return func(yield func(int, uint64) bool) {
		for k := count - 1; k >= 0; k-- {
			if !yield(k, s.word(k)) {
				return
			}
		}
	}
}

// Compare: -1, 0 or 1, by the numbers, the greatest one first.
func Compare(a, b Set) int {
	for k, w := range a.backward(max(len(a.words), len(b.words))) {
		// Of two words the one that has the greatest bit of those in which
		// they differ is the greater number.
		if c := cmp.Compare(w, b.word(k)); c != 0 {
			return c
		}
	}
	return 0
}
