package inst

import (
	"testing"

	"secateur/api"
)

// P9.1 and P9.2's N, held against a model, which gathers all that is wrong of
// an instance and tells what comes first of it.

const (
	noKind = iota
	others
	sizes
	form
	limits
	ownPlaces
	turns
)

// wrongs are all turns at which something is wrong of i.
func wrongs(i Inst) [turns]bool {
	var w [turns]bool
	is := func(turn int, wrong bool) {
		w[turn] = w[turn] || wrong
	}
	amount := func(n int64) {
		is(limits, n < 0 || n > api.MaxMag)
	}
	is(noKind, i.Kind != Knapsack && i.Kind != Assignment && i.Kind != Tsp && i.Kind != Cover)
	is(others, i.Kind != Knapsack && (i.Cap != 0 || len(i.Items) != 0))
	is(others, i.Kind != Assignment && i.Kind != Tsp && len(i.Cost) != 0)
	is(others, i.Kind != Cover && (i.Size != 0 || len(i.Sets) != 0))
	switch i.Kind {
	case Knapsack:
		is(sizes, len(i.Items) > api.MaxN)
		amount(i.Cap)
		for _, x := range i.Items {
			amount(x.Value)
			amount(x.Weight)
		}
	case Assignment, Tsp:
		is(sizes, len(i.Cost) == 0 || len(i.Cost) > api.MaxSide)
		for r, row := range i.Cost {
			is(form, len(row) != len(i.Cost))
			for c, n := range row {
				is(limits, n > api.MaxMag || -n > api.MaxMag)
				is(ownPlaces, i.Kind == Tsp && r == c && n != 0)
			}
		}
	case Cover:
		is(sizes, i.Size < 0 || i.Size > api.MaxN || len(i.Sets) > api.MaxN)
		for _, set := range i.Sets {
			amount(set.Cost)
			for at, x := range set.Elems {
				is(form, x < 0 || x > i.Size-1)
				is(form, at > 0 && set.Elems[at-1] >= x)
			}
		}
	}
	return w
}

func model(i Inst) (api.Errno, int) {
	told := [turns]api.Errno{api.ErrKind, api.ErrForm, api.ErrLimit, api.ErrForm, api.ErrLimit, api.ErrForm}
	for turn, wrong := range wrongs(i) {
		if wrong {
			return told[turn], 0
		}
	}
	n := len(i.Items) + len(i.Cost) + len(i.Sets)
	if i.Kind == Tsp {
		n--
	}
	return api.OK, n
}

// holds tests an instance, of any kind, against the model.
func holds(t *testing.T, i Inst, seen map[[2]int]int) {
	t.Helper()
	for i.Kind = -1; i.Kind <= Kinds; i.Kind++ {
		want, n := model(i)
		if e := i.Check(); e != want || i.N() != n {
			t.Errorf("Check and N of %v are %d and %d, want %d and %d", i, e, i.N(), want, n)
		}
		seen[[2]int{int(i.Kind), int(want)}]++
	}
}

// told tests that of each kind so many errors were to be told.
func told(t *testing.T, seen map[[2]int]int, kinds ...int) {
	t.Helper()
	got := map[int]int{}
	for x := range seen {
		got[x[0]]++
	}
	for k, n := range kinds {
		if got[k] != n {
			t.Errorf("of the kind %d so many unlike errors were to be told: %d, want %d", k, got[k], n)
		}
	}
}

// TestModelOfFields: all of what each field may have, one beside another.
func TestModelOfFields(t *testing.T) {
	seen := map[[2]int]int{}
	badItems := make([]Item, api.MaxN+1)
	badItems[0].Value = -1
	badRows := square(api.MaxSide + 1)
	badRows[0] = nil
	for _, room := range []int64{0, -1, 1, api.MaxMag + 1} {
		for _, items := range [][]Item{nil, {}, {{}}, {{1, 2}, {3, 4}}, {{0, -1}}, badItems[1:], badItems} {
			for _, cost := range [][][]int64{nil, {}, {{}}, {{0}}, {{1}}, {{0, 1}}, {{api.MaxMag + 1}}, square(api.MaxSide), badRows} {
				for _, size := range []int{0, -1, 1, 2, api.MaxN, api.MaxN + 1} {
					for _, sets := range [][]Set{nil, {}, {{}}, {{Cost: -1}}, {{1, []int{0}}}, {{-1, []int{0, 0}}}, {{1, []int{0, 1}}, {2, []int{1}}}} {
						holds(t, Inst{Cap: room, Items: items, Cost: cost, Size: size, Sets: sets}, seen)
					}
				}
			}
		}
	}
	told(t, seen, 3, 3, 3, 3, 1)
}

// TestModelOfItems: all lists of up to three items of few numbers.
func TestModelOfItems(t *testing.T) {
	seen := map[[2]int]int{}
	var all []Item
	for _, v := range []int64{-1, 0, api.MaxMag, api.MaxMag + 1} {
		for _, w := range []int64{-1, 3, api.MaxMag, api.MaxMag + 1} {
			all = append(all, Item{v, w})
		}
	}
	for _, a := range all {
		for _, b := range all {
			for _, c := range all {
				for n := range 4 {
					holds(t, Inst{Cap: 7, Items: []Item{a, b, c}[:n]}, seen)
				}
			}
		}
	}
	told(t, seen, 2, 1, 1, 1, 1)
}

// TestModelOfRows: all squares of two rows, of up to three of few numbers each.
func TestModelOfRows(t *testing.T) {
	seen := map[[2]int]int{}
	var rows [][]int64
	numbers := []int64{0, 4, -api.MaxMag, api.MaxMag + 1, -api.MaxMag - 1}
	rows = append(rows, nil)
	for _, a := range numbers {
		rows = append(rows, []int64{a})
		for _, b := range numbers {
			rows = append(rows, []int64{a, b}, []int64{a, b, 0})
		}
	}
	for _, a := range rows {
		holds(t, Inst{Cost: [][]int64{a}}, seen)
		for _, b := range rows {
			holds(t, Inst{Cost: [][]int64{a, b}}, seen)
			holds(t, Inst{Cost: [][]int64{a, b, {0, 0, 0}}}, seen)
		}
	}
	told(t, seen, 1, 3, 3, 1, 1)
}

// TestModelOfSets: all covers of two sets, of up to three elements each.
func TestModelOfSets(t *testing.T) {
	seen := map[[2]int]int{}
	elems := [][]int{nil}
	for from, n := 0, 3; n > 0; n-- {
		for _, l := range elems[from:] {
			from++
			for x := -1; x <= 3; x++ {
				elems = append(elems, append(append([]int{}, l...), x))
			}
		}
	}
	for size := -1; size <= 4; size++ {
		for _, a := range elems {
			for _, b := range elems[:31] {
				holds(t, Inst{Size: size, Sets: []Set{{1, a}, {2, b}}}, seen)
				holds(t, Inst{Size: size, Sets: []Set{{-1, b}, {2, a}}}, seen)
			}
		}
	}
	told(t, seen, 1, 1, 1, 3, 1)
}
