package bitset

import "iter"

// Subsets: all sets of some of its numbers.
func (s Set) Subsets() iter.Seq[Set] {
	return func(yield func(Set) bool) {
		sub, more := empty(s.size), true
		for more && yield(sub) {
			sub, more = s.after(sub)
		}
	}
}

// after is the subset of s that comes next behind sub; false, if sub is s.
func (s Set) after(sub Set) (Set, bool) {
	next := sub.copied()
	for k, w := range s.words {
		// sub - w is 1 more than sub with all bits that w hasn't: the carry
		// of that 1 passes over them, and so just the bits of w count on.
		next.words[k] = (sub.words[k] - w) & w
		if next.words[k] != 0 { // else the carry goes on into the word above
			return next, true
		}
	}
	return Set{}, false
}
