package eval

import (
	"fmt"
	"math"
	"slices"
	"testing"

	"secateur/api"
	"secateur/inst"
	"secateur/sample"
)

// P12.1: Feasible, Value, Cost

// comes tests that an answer may be, with its value, and its cost.
func comes(t *testing.T, i inst.Inst, value int64, x ...int) {
	t.Helper()
	cost := value
	if i.Kind == inst.Knapsack {
		cost = -value
	}
	tells(t, i, x, value, cost, api.OK)
}

// mayNot tests that an answer mayn't be of an instance that may.
func mayNot(t *testing.T, i inst.Inst, x ...int) {
	t.Helper()
	tells(t, i, x, 0, 0, api.ErrState)
}

func tells(t *testing.T, i inst.Inst, x []int, value, cost int64, want api.Errno) {
	t.Helper()
	if Feasible(i, x) != (want == api.OK) {
		t.Errorf("P12.1: Feasible(%s) is %t", brief(i, x), want != api.OK)
	}
	if v, e := Value(i, x); v != value || e != want {
		t.Errorf("P12.1: Value(%s) is %d, %d; want %d, %d", brief(i, x), v, e, value, want)
	}
	if c, e := Cost(i, x); c != cost || e != want {
		t.Errorf("P12.1: Cost(%s) is %d, %d; want %d, %d", brief(i, x), c, e, cost, want)
	}
}

// brief tells an instance and an answer, but for the ends of great ones.
func brief(i inst.Inst, x []int) string {
	return fmt.Sprintf("%.200s, %.200s", fmt.Sprintf("%+v", i), fmt.Sprint(x))
}

// upTo are the numbers from 0 to one less than n.
func upTo(n int) []int {
	x := make([]int, n)
	for k := range x {
		x[k] = k
	}
	return x
}

func TestExample(t *testing.T) {
	comes(t, sample.Square(inst.Assignment, []int64{1, 2}, []int64{3, 4}), 5, 1, 0)
}

func TestKnapsacks(t *testing.T) {
	i := sample.Knapsack(7, inst.Item{Value: 6, Weight: 3}, inst.Item{Value: 5, Weight: 4}, inst.Item{Value: 10, Weight: 1}, inst.Item{Value: 200})
	comes(t, i, 0)
	comes(t, i, 6, 0)
	comes(t, i, 5, 1)
	comes(t, i, 200, 3)
	comes(t, i, 11, 0, 1)
	comes(t, i, 211, 0, 1, 3)
	comes(t, i, 216, 0, 2, 3)
	mayNot(t, i, 0, 1, 2)
	mayNot(t, i, 0, 1, 2, 3)
	mayNot(t, i, 1, 0)
	mayNot(t, i, 0, 3, 2)
	mayNot(t, i, 2, 2)
	mayNot(t, i, 0, 3, 3)
	mayNot(t, i, 3, 3, 3, 3)
	comes(t, sample.Knapsack(0), 0)
	comes(t, sample.Knapsack(api.MaxMag), 0)
	mayNot(t, sample.Knapsack(0), 0)
	comes(t, sample.Knapsack(0, inst.Item{}), 0, 0)
	comes(t, sample.Knapsack(0, inst.Item{Value: 3}), 3, 0)
	mayNot(t, sample.Knapsack(0, inst.Item{Weight: 1}), 0)
}

// TestCap: weights that are just at Cap together, and one beyond.
func TestCap(t *testing.T) {
	for _, w := range [][]int64{{5}, {2, 3}, {0, 5, 0}, {api.MaxMag}, {api.MaxMag - 1, 1}, {1 << 30, 1 << 30}, {1, api.MaxMag - 2, 1}, slices.Repeat([]int64{1 << 19}, api.MaxN)} {
		i, room := inst.Inst{}, int64(0)
		for _, n := range w {
			i.Items, room = append(i.Items, inst.Item{Value: 2, Weight: n}), room+n
		}
		i.Cap = room
		comes(t, i, 2*int64(len(w)), upTo(len(w))...)
		i.Cap = room - 1
		mayNot(t, i, upTo(len(w))...)
	}
	for _, n := range []int{2, 3, 4, api.MaxN} { // their sum is a multiple of 2^32 now and then
		i := sample.Knapsack(api.MaxMag, slices.Repeat([]inst.Item{{Value: 2, Weight: api.MaxMag}}, n)...)
		comes(t, i, 2, n-1)
		mayNot(t, i, upTo(n)...)
	}
}

func TestAssignments(t *testing.T) {
	i := sample.Square(inst.Assignment, []int64{1, 20, 300}, []int64{-4, 50, -600}, []int64{7, 0, 9})
	comes(t, i, 60, 0, 1, 2)
	comes(t, i, -599, 0, 2, 1)
	comes(t, i, 25, 1, 0, 2)
	comes(t, i, -573, 1, 2, 0)
	comes(t, i, 296, 2, 0, 1)
	comes(t, i, 357, 2, 1, 0)
	mayNot(t, i)
	mayNot(t, i, 0)
	mayNot(t, i, 0, 1)
	mayNot(t, i, 2, 1)
	mayNot(t, i, 0, 1, 2, 0)
	mayNot(t, i, 0, 1, 2, 3)
	mayNot(t, i, 0, 1, 2, 0, 1, 2)
	mayNot(t, i, 0, 1, 1)
	mayNot(t, i, 0, 0, 2)
	mayNot(t, i, 2, 1, 2)
	comes(t, sample.Square(inst.Assignment, []int64{-7}), -7, 0)
	mayNot(t, sample.Square(inst.Assignment, []int64{-7}))
	mayNot(t, sample.Square(inst.Assignment, []int64{-7}), 0, 0)
}

func TestTsps(t *testing.T) {
	i := sample.Square(inst.Tsp, []int64{0, 1, 20, 300}, []int64{-4, 0, -50, 600}, []int64{7000, 80000, 0, 9}, []int64{-1000, 3, 500, 0})
	comes(t, i, 1-50+9-1000, 0, 1, 2, 3)
	comes(t, i, 1+600+500+7000, 0, 1, 3, 2)
	comes(t, i, 20+80000+600-1000, 0, 2, 1, 3)
	comes(t, i, 20+9+3-4, 0, 2, 3, 1)
	comes(t, i, 300+3-50+7000, 0, 3, 1, 2)
	comes(t, i, 300+500+80000-4, 0, 3, 2, 1)
	mayNot(t, i, 1, 2, 3, 0)
	mayNot(t, i, 3, 2, 1, 0)
	mayNot(t, i, 1, 0, 2, 3)
	mayNot(t, i)
	mayNot(t, i, 0)
	mayNot(t, i, 0, 1, 2)
	mayNot(t, i, 1, 2, 3)
	mayNot(t, i, 0, 1, 2, 3, 0)
	mayNot(t, i, 0, 1, 2, 3, 4)
	mayNot(t, i, 0, 1, 2, 2)
	mayNot(t, i, 0, 0, 1, 2)
	mayNot(t, i, 0, 1, 2, 0)
	comes(t, sample.Square(inst.Tsp, []int64{0}), 0, 0)
	mayNot(t, sample.Square(inst.Tsp, []int64{0}))
	mayNot(t, sample.Square(inst.Tsp, []int64{0}), 0, 0)
	mayNot(t, sample.Square(inst.Tsp, []int64{0}), 1)
	comes(t, sample.Square(inst.Tsp, []int64{0, 5}, []int64{-7, 0}), -2, 0, 1)
	mayNot(t, sample.Square(inst.Tsp, []int64{0, 5}, []int64{-7, 0}), 1, 0)
}

func TestCovers(t *testing.T) {
	i := sample.Cover(4, inst.Set{Cost: 5, Elems: []int{0, 1}}, inst.Set{Cost: 20, Elems: []int{2, 3}}, inst.Set{Elems: []int{1, 2, 3}}, inst.Set{Cost: 300}, inst.Set{Cost: 1000, Elems: []int{0, 1, 2, 3}})
	comes(t, i, 1000, 4)
	comes(t, i, 25, 0, 1)
	comes(t, i, 5, 0, 2)
	comes(t, i, 325, 0, 1, 3)
	comes(t, i, 1325, 0, 1, 2, 3, 4)
	mayNot(t, i)
	mayNot(t, i, 0)
	mayNot(t, i, 3)
	mayNot(t, i, 1, 2)
	mayNot(t, i, 1, 2, 3)
	mayNot(t, i, 1, 0)
	mayNot(t, i, 4, 3)
	mayNot(t, i, 4, 4)
	mayNot(t, i, 0, 0, 1)
	mayNot(t, i, 0, 1, 1)
	mayNot(t, i, 0, 3, 2)
	comes(t, sample.Cover(0), 0)
	mayNot(t, sample.Cover(0), 0)
	mayNot(t, sample.Cover(1))
	mayNot(t, sample.Cover(1), 0)
	comes(t, sample.Cover(0, inst.Set{Cost: 4}), 0)
	comes(t, sample.Cover(0, inst.Set{Cost: 4}), 4, 0)
	mayNot(t, sample.Cover(1, inst.Set{Cost: 4}), 0)
}

// TestOneElementMissing: whichever it is.
func TestOneElementMissing(t *testing.T) {
	for _, size := range []int{1, 2, 3, 63, 64, 65, 128, 129, api.MaxN} {
		all := upTo(size)
		for _, n := range []int{0, size / 2, size - 1} {
			others := slices.Concat(all[:n], all[n+1:])
			i := sample.Cover(size, inst.Set{Cost: 1, Elems: others}, inst.Set{Cost: 20, Elems: []int{n}}, inst.Set{Cost: 300, Elems: all})
			mayNot(t, i)
			mayNot(t, i, 0)
			comes(t, i, 21, 0, 1)
			comes(t, i, 300, 2)
			if size > 1 {
				mayNot(t, i, 1)
			}
		}
	}
}

// TestNumbersOutside: a number below 0, and one too great, at each place.
func TestNumbersOutside(t *testing.T) {
	for _, x := range []struct {
		i inst.Inst
		x []int
	}{
		{sample.Knapsack(9, make([]inst.Item, 3)...), []int{0, 1, 2}},
		{sample.Square(inst.Assignment, make([]int64, 3), make([]int64, 3), make([]int64, 3)), []int{2, 0, 1}},
		{sample.Square(inst.Tsp, make([]int64, 3), make([]int64, 3), make([]int64, 3)), []int{0, 2, 1}},
		{sample.Cover(1, slices.Repeat([]inst.Set{{Elems: []int{0}}}, 3)...), []int{0, 1, 2}},
	} {
		comes(t, x.i, 0, x.x...)
		for at := range x.x {
			for _, n := range []int{-1, -2, math.MinInt, 3, 4, 63, 64, 65, api.MaxN, api.MaxN + 1, math.MaxInt, 1 << 32, -1 << 32} {
				y := slices.Clone(x.x)
				y[at] = n
				mayNot(t, x.i, y...)
				mayNot(t, x.i, n)
				mayNot(t, x.i, append(x.x[:3:3], n)...)
			}
		}
	}
}

// TestNoNumbers: a nil list and an empty one are the same, of each kind.
func TestNoNumbers(t *testing.T) {
	for _, x := range [][]int{nil, {}} {
		comes(t, sample.Knapsack(0), 0, x...)
		comes(t, sample.Knapsack(5, inst.Item{Value: 6, Weight: 3}), 0, x...)
		mayNot(t, sample.Square(inst.Assignment, []int64{5}), x...)
		mayNot(t, sample.Square(inst.Tsp, []int64{0}), x...)
		comes(t, sample.Cover(0, inst.Set{Cost: 5}), 0, x...)
		mayNot(t, sample.Cover(3, inst.Set{Cost: 5, Elems: []int{0, 1, 2}}), x...)
	}
}

// TestGreatest: as many numbers as may be, each as great as may be.
func TestGreatest(t *testing.T) {
	all := upTo(api.MaxN)
	great := slices.Repeat([]inst.Item{{Value: api.MaxMag}}, api.MaxN)
	comes(t, sample.Knapsack(0, great...), api.MaxN*api.MaxMag, all...)
	comes(t, sample.Knapsack(0, great...), api.MaxMag, api.MaxN-1)
	mayNot(t, sample.Knapsack(0, great...), append(all[:api.MaxN:api.MaxN], api.MaxN)...)
	mayNot(t, sample.Knapsack(0, great...), append(all[:api.MaxN:api.MaxN], api.MaxN-1)...)
	whole := inst.Set{Cost: api.MaxMag, Elems: all}
	comes(t, sample.Cover(api.MaxN, slices.Repeat([]inst.Set{whole}, api.MaxN)...), api.MaxN*api.MaxMag, all...)
	var each []inst.Set
	for n := range api.MaxN {
		each = append(each, inst.Set{Cost: api.MaxMag, Elems: []int{n}})
	}
	comes(t, sample.Cover(api.MaxN, each...), api.MaxN*api.MaxMag, all...)
	mayNot(t, sample.Cover(api.MaxN, each...), all[1:]...)
	mayNot(t, sample.Cover(api.MaxN, each...), all[:api.MaxN-1]...)
	for _, n := range []int64{api.MaxMag, -api.MaxMag} {
		order := upTo(api.MaxSide)
		a, w := inst.Inst{Kind: inst.Assignment}, inst.Inst{Kind: inst.Tsp}
		for r := range api.MaxSide {
			row := slices.Repeat([]int64{n}, api.MaxSide)
			a.Cost = append(a.Cost, row)
			w.Cost = append(w.Cost, slices.Concat(row[:r], []int64{0}, row[r+1:]))
		}
		comes(t, a, api.MaxSide*n, order...)
		comes(t, w, api.MaxSide*n, order...)
		mayNot(t, a, order[1:]...)
		mayNot(t, w, order[:api.MaxSide-1]...)
		slices.Reverse(order)
		comes(t, a, api.MaxSide*n, order...)
		mayNot(t, w, order...)
	}
}

// TestLongAnswers: far more numbers than there may be.
func TestLongAnswers(t *testing.T) {
	long := upTo(1 << 20)
	mayNot(t, sample.Knapsack(9, make([]inst.Item, api.MaxN)...), long...)
	mayNot(t, sample.Square(inst.Assignment, []int64{5}), long...)
	mayNot(t, sample.Square(inst.Tsp, []int64{0}), long...)
	mayNot(t, sample.Cover(0, make([]inst.Set, api.MaxN)...), long...)
}

// TestInstancesThatMayNotBe: each error of Check is told, whatever the answer.
func TestInstancesThatMayNotBe(t *testing.T) {
	for _, w := range sample.Wrongs() {
		for _, x := range [][]int{nil, {}, {0}, {0, 1}, {1, 0}, {0, 1, 2}, {-1}, {5}, {0, 0}, {math.MaxInt, math.MinInt}, upTo(api.MaxN + 1)} {
			tells(t, w.Inst, x, 0, 0, w.Want)
		}
	}
}
