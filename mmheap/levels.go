package mmheap

import (
	"math/bits"

	"secateur/key"
)

// levels are entries by their places. An entry at an even level is to come
// behind none below it, one at an odd level ahead of none below it.
type levels []key.Entry

// even: is the level of the place i an even one?
func even(i int) bool {
	return bits.Len(uint(i)+1)%2 == 1
}

func above(i int) int { return (i - 1) / 2 }

// beats: has the entry at i a better claim than the one at k to stand high
// among the even levels (up), or among the odd ones? None beats its like.
func (l levels) beats(i, k int, up bool) bool {
	if up {
		return key.Less(l[i], l[k])
	}
	return key.Less(l[k], l[i])
}

func (l levels) swap(i, k int) { l[i], l[k] = l[k], l[i] }

// last is the place of the last entry of a list that has some and stands right.
func (l levels) last() int {
	switch {
	case len(l) < 3:
		return len(l) - 1
	case l.beats(2, 1, false):
		return 2
	}
	return 1
}

// arrange makes any list stand right: from the end on, what stands below a
// place does already, when the place's own entry sinks.
func (l levels) arrange() {
	for i := len(l)/2 - 1; i >= 0; i-- {
		l.sink(i)
	}
}

// rise makes the list stand right, if it did before the entry at its end, the
// place i, was put there.
func (l levels) rise(i int) {
	up := even(i)
	if i > 0 && l.beats(i, above(i), !up) {
		l.swap(i, above(i))
		i, up = above(i), !up
	}
	// The place above the one above is of the same kind of level.
	for i > 2 && l.beats(i, above(above(i)), up) {
		l.swap(i, above(above(i)))
		i = above(above(i))
	}
}

// sink makes the part of the list from the place i downward stand right, if
// all of it but the entry at i does.
func (l levels) sink(i int) {
	up := even(i)
	for {
		best := l.best(i, up)
		if best == i {
			return
		}
		l.swap(i, best)
		if above(best) == i {
			return
		}
		if l.beats(above(best), best, up) {
			l.swap(above(best), best)
		}
		i = best
	}
}

// best is the place of the entry that is to stand at i: of the one there, and
// those one and two levels below it.
func (l levels) best(i int, up bool) int {
	best := l.bestOf(i, 2*i+1, 2, up)
	return l.bestOf(best, 4*i+3, 4, up)
}

// bestOf is the place best, or that of a better one among the n places from a
// place on, as far as the list has them.
func (l levels) bestOf(best, from, n int, up bool) int {
	for k := from; k < min(from+n, len(l)); k++ {
		if l.beats(k, best, up) {
			best = k
		}
	}
	return best
}
