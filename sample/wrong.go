package sample

import (
	"math"
	"slices"

	"secateur/api"
	"secateur/inst"
)

// Wrong is an instance that mayn't be, with the error that Check tells of it.
type Wrong struct {
	Inst inst.Inst
	Want api.Errno
}

// Wrongs are such of each kind, for each error, and of no kind.
func Wrongs() []Wrong {
	form, limit := wrongKnapsacks()
	for _, k := range []inst.Kind{inst.Assignment, inst.Tsp} {
		f, l := wrongSquares(k)
		form, limit = append(form, f...), append(limit, l...)
	}
	f, l := wrongCovers()
	form, limit = append(form, f...), append(limit, l...)
	form = append(form, Square(inst.Tsp, []int64{1}), Square(inst.Tsp, []int64{0, 1}, []int64{0, -1}), Square(inst.Tsp, []int64{api.MaxMag, 0}, []int64{2, 0}))
	var all []Wrong
	for _, i := range form {
		all = append(all, Wrong{i, api.ErrForm})
	}
	for _, i := range limit {
		all = append(all, Wrong{i, api.ErrLimit})
	}
	return slices.Concat(all, ofNoKind(form), ofNoKind(limit), ofNoKind([]inst.Inst{{}, Knapsack(5, inst.Item{Value: 6, Weight: 3}), Cover(3, inst.Set{Cost: 5, Elems: []int{0, 2}}), Square(inst.Tsp, []int64{0})}))
}

// ofNoKind are instances, each of some numbers that are no kinds.
func ofNoKind(l []inst.Inst) []Wrong {
	var all []Wrong
	for _, i := range l {
		for _, i.Kind = range []inst.Kind{-1, inst.Kinds, inst.Kinds + 1, math.MinInt, math.MaxInt} {
			all = append(all, Wrong{i, api.ErrKind})
		}
	}
	return all
}

// wrongKnapsacks, wrongSquares and wrongCovers are instances of which Check
// tells ErrForm, and such of which it tells ErrLimit.
func wrongKnapsacks() (form, limit []inst.Inst) {
	one := inst.Item{Value: 6, Weight: 3}
	form = []inst.Inst{{Items: []inst.Item{one}, Cost: [][]int64{{0}}}, {Cap: 5, Size: 1}, {Cap: 5, Sets: []inst.Set{{}}}}
	limit = []inst.Inst{
		{Items: make([]inst.Item, api.MaxN+1)}, Knapsack(-1), Knapsack(api.MaxMag + 1), Knapsack(math.MaxInt64), Knapsack(math.MinInt64),
		Knapsack(5, one, inst.Item{Value: -1}), Knapsack(5, inst.Item{Weight: -1}, one),
		Knapsack(5, inst.Item{Value: api.MaxMag + 1}), Knapsack(5, one, inst.Item{Weight: api.MaxMag + 1}),
	}
	return form, limit
}

func wrongSquares(k inst.Kind) (form, limit []inst.Inst) {
	a, b := []int64{0, 1}, []int64{2, 0}
	form = []inst.Inst{
		{Kind: k, Cap: 1, Cost: [][]int64{{0}}}, {Kind: k, Items: make([]inst.Item, 1), Cost: [][]int64{{0}}},
		{Kind: k, Size: 1, Cost: [][]int64{{0}}}, {Kind: k, Sets: []inst.Set{{}}, Cost: [][]int64{{0}}},
		Square(k, nil), Square(k, a), Square(k, a, b, a), Square(k, a, b[:1]), Square(k, a[:1], b), Square(k, a, []int64{0, 0, 0}),
	}
	limit = []inst.Inst{
		Square(k), {Kind: k, Cost: make([][]int64, api.MaxSide+1)},
		Square(k, []int64{0, api.MaxMag + 1}, b), Square(k, a, []int64{-api.MaxMag - 1, 0}), Square(k, []int64{math.MaxInt64}),
	}
	return form, limit
}

func wrongCovers() (form, limit []inst.Inst) {
	k := inst.Cover
	form = []inst.Inst{
		{Kind: k, Size: 3, Cap: 1}, {Kind: k, Size: 3, Items: make([]inst.Item, 1)}, {Kind: k, Size: 3, Cost: [][]int64{{0}}},
		Cover(3, inst.Set{Elems: []int{3}}), Cover(3, inst.Set{Elems: []int{-1}}), Cover(3, inst.Set{Elems: []int{2, 0}}), Cover(0, inst.Set{Elems: []int{0}}),
		Cover(3, inst.Set{Elems: []int{0, 2}}, inst.Set{Elems: []int{1, 1}}),
	}
	limit = []inst.Inst{
		Cover(-1), Cover(api.MaxN + 1), Cover(math.MinInt), {Kind: k, Size: 3, Sets: make([]inst.Set, api.MaxN+1)},
		Cover(3, inst.Set{Cost: -1}), Cover(3, inst.Set{Elems: []int{0}}, inst.Set{Cost: api.MaxMag + 1, Elems: []int{0}}),
	}
	return form, limit
}
