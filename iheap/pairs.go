package iheap

import "secateur/key"

// pairs are entries by their places: those of the pair k are 2k and 2k + 1,
// and below it stand the pairs 2k + 1 and 2k + 2. What stands below a pair is
// to lie between its first and its second entry. A pair has two sides: that of
// its first entry, where the firsts of all pairs are, and the high one.
type pairs []key.Entry

func above(k int) int { return (k - 1) / 2 }

// place is that of the pair k's entry of a side. The one entry of a last pair
// without a second stands on both sides.
func (l pairs) place(k int, high bool) int {
	if high {
		return min(2*k+1, len(l)-1)
	}
	return 2 * k
}

// beats: has the pair k's entry of a side a better claim than the pair n's to
// stand high up on that side? None beats its like.
func (l pairs) beats(k, n int, high bool) bool {
	a, b := l[l.place(k, high)], l[l.place(n, high)]
	if high {
		return key.Less(b, a)
	}
	return key.Less(a, b)
}

// exchange exchanges what stands on a side of two pairs.
func (l pairs) exchange(k, n int, high bool) {
	i, j := l.place(k, high), l.place(n, high)
	l[i], l[j] = l[j], l[i]
}

// order lays the pair k's entries in their order.
func (l pairs) order(k int) {
	if i := 2 * k; i+1 < len(l) && key.Less(l[i+1], l[i]) {
		l[i], l[i+1] = l[i+1], l[i]
	}
}

// arrange makes any list stand right: from the last pair with a second on, what
// stands below a pair does already, when the pair's own entries sink.
func (l pairs) arrange() {
	for k := len(l)/2 - 1; k >= 0; k-- {
		l.sink(k, false)
		l.sink(k, true)
	}
}

// settle makes the list stand right, if it did before the entry at its end was
// put there. That one rises on one side at most: what it leaves in its pair
// fits on the other side.
func (l pairs) settle() {
	k := (len(l) - 1) / 2
	l.order(k)
	l.rise(k, false)
	l.rise(k, true)
}

// rise lets the pair k's entry of a side go up there to where none above it
// is beaten.
func (l pairs) rise(k int, high bool) {
	for k > 0 && l.beats(k, above(k), high) {
		l.exchange(k, above(k), high)
		k = above(k)
	}
}

// sink lays the pair k in its order and lets its entry of a side go down there
// to where none below beats it. What stands below the pair k is to stand right,
// and stands right then, too. Each pair on the way is laid in its order anew:
// the entry may fit its other side only.
func (l pairs) sink(k int, high bool) {
	for {
		l.order(k)
		best := l.best(k, high)
		if best == k {
			return
		}
		l.exchange(k, best, high)
		k = best
	}
}

// best is the pair whose entry of a side is to stand there in the pair k: k
// itself, or one of those below it, as far as the list has them.
func (l pairs) best(k int, high bool) int {
	best := k
	for n := 2*k + 1; n <= 2*k+2 && 2*n < len(l); n++ {
		if l.beats(n, best, high) {
			best = n
		}
	}
	return best
}
