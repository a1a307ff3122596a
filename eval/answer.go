package eval

import (
	"secateur/bitset"
	"secateur/inst"
	"secateur/num"
)

// mayBe: may an answer of an instance be, which may be itself?
func mayBe(i inst.Inst, x []int) bool {
	switch i.Kind {
	case inst.Knapsack:
		return rise(x, len(i.Items)) && together(weights(i, x)) <= i.Cap
	case inst.Assignment:
		return isOrder(x, len(i.Cost))
	case inst.Tsp:
		return isOrder(x, len(i.Cost)) && x[0] == 0
	}
	return rise(x, len(i.Sets)) && hasAll(i, x)
}

// rise: does each number come behind the one ahead of it, from 0 to one less
// than n?
func rise(x []int, n int) bool {
	least := 0
	for _, k := range x {
		if k < least || k >= n {
			return false
		}
		least = k + 1
	}
	return true
}

// isOrder: is each number from 0 to one less than n there, once?
func isOrder(x []int, n int) bool {
	if len(x) != n {
		return false
	}
	left, _ := bitset.Full(n) // there is one: a side is far below MaxN
	for _, k := range x {
		if !left.Has(k) {
			return false
		}
		left = left.Without(k)
	}
	return true
}

// hasAll: have sets of a Cover all elements among them?
func hasAll(i inst.Inst, x []int) bool {
	missing, _ := bitset.Full(i.Size) // there is one: Check lets no Size beyond MaxN by
	for _, k := range x {
		for _, elem := range i.Sets[k].Elems {
			if missing.Has(elem) { // asked first, since Without makes a whole set each time
				missing = missing.Without(elem)
			}
		}
	}
	return missing.Count() == 0
}

// weights are those of a Knapsack's items.
func weights(i inst.Inst, x []int) []int64 {
	l := make([]int64, len(x))
	for at, k := range x {
		l[at] = i.Items[k].Weight
	}
	return l
}

// amounts are what an answer that may be comes to, number by number.
func amounts(i inst.Inst, x []int) []int64 {
	l := make([]int64, len(x))
	for at, k := range x {
		switch i.Kind {
		case inst.Knapsack:
			l[at] = i.Items[k].Value
		case inst.Assignment:
			l[at] = i.Cost[at][k]
		case inst.Tsp:
			l[at] = i.Cost[k][x[(at+1)%len(x)]]
		case inst.Cover:
			l[at] = i.Sets[k].Cost
		}
	}
	return l
}

// together is the sum of an answer's numbers, which always is there: they are
// MaxN at most, and none is beyond MaxMag.
func together(l []int64) int64 {
	sum, _ := num.Sum(l...)
	return sum
}
