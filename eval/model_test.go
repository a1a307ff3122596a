package eval

import (
	"maps"
	"slices"
	"testing"

	"secateur/api"
	"secateur/inst"
	"secateur/sample"
)

// P12.1 held against a model

// model is whether an answer of an instance that may be may be, and its value.
func model(i inst.Inst, x []int) (bool, int64) {
	there := map[int]int{}
	for _, k := range x {
		there[k]++
	}
	order := slices.Sorted(maps.Keys(there))
	once := len(order) == len(x)
	within := len(x) == 0 || order[0] >= 0 && order[len(order)-1] < len(i.Items)+len(i.Cost)+len(i.Sets)
	if !once || !within {
		return false, 0
	}
	var weight, value int64
	elems := map[int]bool{}
	last := 0
	if len(x) > 0 {
		last = x[len(x)-1]
	}
	for at, k := range x {
		switch i.Kind {
		case inst.Knapsack:
			weight, value = weight+i.Items[k].Weight, value+i.Items[k].Value
		case inst.Assignment:
			value += i.Cost[at][k]
		case inst.Tsp:
			value, last = value+i.Cost[last][k], k
		case inst.Cover:
			value += i.Sets[k].Cost
			for _, e := range i.Sets[k].Elems {
				elems[e] = true
			}
		}
	}
	switch i.Kind {
	case inst.Assignment:
		return len(x) == len(i.Cost), value
	case inst.Tsp:
		return len(x) == len(i.Cost) && x[0] == 0, value
	}
	return slices.Equal(x, order) && weight <= i.Cap && len(elems) == i.Size, value
}

// holds tests an answer against the model, and tells whether it may be.
func holds(t *testing.T, i inst.Inst, x []int) bool {
	t.Helper()
	may, value := model(i, x)
	if may {
		comes(t, i, value, x...)
	} else {
		mayNot(t, i, x...)
	}
	return may
}

// holdsAll tests all lists of up to so many numbers, each from -1 to n.
func holdsAll(t *testing.T, i inst.Inst, most, n int) (may int) {
	t.Helper()
	var look func(x []int)
	look = func(x []int) {
		if holds(t, i, x) {
			may++
		}
		for k := -1; k <= n && len(x) < most; k++ {
			look(append(x[:len(x):len(x)], k))
		}
	}
	look(nil)
	return may
}

// TestModelOfSmallKnapsacks: all of up to three items of some.
func TestModelOfSmallKnapsacks(t *testing.T) {
	some := []inst.Item{{}, {Value: 1, Weight: 2}, {Value: 30, Weight: 1}, {Value: api.MaxMag, Weight: api.MaxMag}}
	for _, room := range []int64{0, 1, 2, 3, api.MaxMag} {
		if may := holdsAll(t, sample.Knapsack(room), 2, 1); may != 1 {
			t.Errorf("P12.1: of no items %d answers may be", may)
		}
		for _, a := range some {
			holdsAll(t, sample.Knapsack(room, a), 3, 2)
			for _, b := range some {
				for _, c := range some {
					holdsAll(t, sample.Knapsack(room, a, b, c), 4, 3)
				}
			}
		}
	}
}

// TestModelOfSmallSquares: as many answers may be as there are orders of the
// rows, or of all but the first.
func TestModelOfSmallSquares(t *testing.T) {
	cells := []int64{1, 20, -300, 4000, -50000, 600000, 7000000, -80000000, 900000000, -1000000000, 1100000000, 1200000000, -1300000000, 1400000000, 1500000000, 1600000000}
	for n, want := range map[int][2]int{1: {1, 1}, 2: {2, 1}, 3: {6, 2}, 4: {24, 6}} {
		a, w := inst.Inst{Kind: inst.Assignment}, inst.Inst{Kind: inst.Tsp}
		for r := range n {
			row := cells[r*n : r*n+n]
			a.Cost = append(a.Cost, row)
			w.Cost = append(w.Cost, slices.Concat(row[:r], []int64{0}, row[r+1:]))
		}
		if may := [2]int{holdsAll(t, a, n+1, n), holdsAll(t, w, n+1, n)}; may != want {
			t.Errorf("P12.1: of %d rows %v answers may be, want %v", n, may, want)
		}
	}
}

// TestModelOfSmallCovers: all of up to three elements and three sets.
func TestModelOfSmallCovers(t *testing.T) {
	for size := range 4 {
		var some []inst.Set
		for m := range 1 << size {
			set := inst.Set{Cost: int64(m * m)}
			for e := range size {
				if m>>e&1 == 1 {
					set.Elems = append(set.Elems, e)
				}
			}
			some = append(some, set)
		}
		holdsAll(t, sample.Cover(size), 2, 1)
		for _, a := range some {
			holdsAll(t, sample.Cover(size, a), 3, 2)
			for _, b := range some {
				holdsAll(t, sample.Cover(size, a, b), 3, 2)
				holdsAll(t, sample.Cover(size, a, b, some[len(some)/2]), 4, 3)
			}
		}
	}
}

// strewn is an answer of an instance, which mostly may be.
func strewn(d *sample.Dice, i inst.Inst) []int {
	if n := len(i.Cost); n > 0 {
		x := upTo(n)
		for k := n - 1; k > 0; k-- {
			other := d.Roll(k + 1)
			if i.Kind == inst.Tsp {
				other = 1 + d.Roll(k)
			}
			x[k], x[other] = x[other], x[k]
		}
		return x
	}
	var x []int
	left := i.Cap
	for k := range len(i.Items) + len(i.Sets) {
		if d.Roll(4) > 0 && (i.Kind == inst.Cover || i.Items[k].Weight <= left) {
			x = append(x, k)
			if i.Kind == inst.Knapsack {
				left -= i.Items[k].Weight
			}
		}
	}
	return x
}

// bent is an answer with one number more, less, or another.
func bent(d *sample.Dice, x []int) []int {
	y := slices.Clone(x)
	at := d.Roll(len(x) + 1)
	n := d.Roll(len(x)+3) - 1
	switch d.Roll(4) {
	case 0:
		return slices.Insert(y, at, n)
	case 1:
		if at < len(y) {
			return slices.Delete(y, at, at+1)
		}
	case 2:
		if at < len(y) {
			y[at] = n
		}
	case 3:
		if at+1 < len(y) {
			y[at], y[at+1] = y[at+1], y[at]
		}
	}
	return y
}

// TestModelOfStrewn: instances of each kind, small and great, with answers that
// may be and such as differ from those in one place.
func TestModelOfStrewn(t *testing.T) {
	d := sample.Dice(1)
	var may, not [inst.Kinds]int
	for n := range 2000 {
		k, most := inst.Kind(n%int(inst.Kinds)), 8
		if n%40 < 4 {
			most = 1000
		}
		i := sample.Strewn(&d, k, most)
		if k == inst.Cover {
			i.Sets = append(i.Sets, inst.Set{Cost: 3, Elems: upTo(i.Size)[d.Roll(2)*i.Size/2:]})
		}
		x := strewn(&d, i)
		for _, y := range [][]int{x, bent(&d, x), bent(&d, bent(&d, x))} {
			if holds(t, i, y) {
				may[k]++
			} else {
				not[k]++
			}
		}
	}
	if slices.Min(may[:]) < 200 || slices.Min(not[:]) < 200 {
		t.Errorf("by their kinds of the answers %v may be, and %v mayn't", may, not)
	}
}
