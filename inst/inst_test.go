package inst

import (
	"math"
	"strconv"
	"testing"

	"secateur/api"
)

// P9.1: words

func TestName(t *testing.T) {
	for k, want := range map[Kind]string{
		Knapsack: "knapsack", Assignment: "assignment", Tsp: "tsp", Cover: "cover",
		Kinds: "", Kinds + 1: "", -1: "", -2: "", math.MinInt: "", math.MaxInt: "",
	} {
		if k.Name() != want {
			t.Errorf("P9.1: the word of the kind %d is %q, want %q", k, k.Name(), want)
		}
	}
}

// P9.2: decisions

// square are n rows of n zeros.
func square(n int) [][]int64 {
	l := make([][]int64, n)
	for r := range l {
		l[r] = make([]int64, n)
	}
	return l
}

func TestDecisions(t *testing.T) {
	for name, x := range map[string]struct {
		i    Inst
		want int
	}{
		"the empty knapsack":         {Inst{}, 0},
		"a knapsack without items":   {Inst{Cap: 5, Items: []Item{}}, 0},
		"one item":                   {Inst{Items: []Item{{1, 2}}}, 1},
		"three items":                {Inst{Items: make([]Item, 3)}, 3},
		"most items":                 {Inst{Items: make([]Item, api.MaxN)}, api.MaxN},
		"an assignment of one":       {Inst{Kind: Assignment, Cost: square(1)}, 1},
		"an assignment of three":     {Inst{Kind: Assignment, Cost: square(3)}, 3},
		"an assignment of most":      {Inst{Kind: Assignment, Cost: square(api.MaxSide)}, api.MaxSide},
		"a way round one":            {Inst{Kind: Tsp, Cost: square(1)}, 0},
		"a way round two":            {Inst{Kind: Tsp, Cost: square(2)}, 1},
		"a way round most":           {Inst{Kind: Tsp, Cost: square(api.MaxSide)}, api.MaxSide - 1},
		"the empty cover":            {Inst{Kind: Cover}, 0},
		"a cover without sets":       {Inst{Kind: Cover, Size: 3}, 0},
		"the chapter's example":      {Inst{Kind: Cover, Size: 3, Sets: []Set{{Elems: []int{0, 2}}}}, 1},
		"two sets":                   {Inst{Kind: Cover, Size: 3, Sets: make([]Set, 2)}, 2},
		"most sets":                  {Inst{Kind: Cover, Sets: make([]Set, api.MaxN)}, api.MaxN},
		"no kind":                    {Inst{Kind: Kinds, Items: make([]Item, 3)}, 0},
		"a kind below 0":             {Inst{Kind: -1, Items: make([]Item, 3)}, 0},
		"items and a size":           {Inst{Items: make([]Item, 3), Size: 1}, 0},
		"more items":                 {Inst{Items: make([]Item, api.MaxN+1)}, 0},
		"a bad item":                 {Inst{Items: []Item{{}, {Value: -1}}}, 0},
		"no rows":                    {Inst{Kind: Tsp}, 0},
		"rows that are too short":    {Inst{Kind: Assignment, Cost: make([][]int64, 2)}, 0},
		"more rows":                  {Inst{Kind: Assignment, Cost: square(api.MaxSide + 1)}, 0},
		"a way from a place to it":   {Inst{Kind: Tsp, Cost: [][]int64{{0, 0}, {0, 1}}}, 0},
		"more sets":                  {Inst{Kind: Cover, Sets: make([]Set, api.MaxN+1)}, 0},
		"an element of size 0":       {Inst{Kind: Cover, Sets: []Set{{Elems: []int{0}}}}, 0},
		"a set of a cost below 0":    {Inst{Kind: Cover, Sets: []Set{{Cost: -1}}}, 0},
		"a cover of a size below 0":  {Inst{Kind: Cover, Size: -1, Sets: make([]Set, 2)}, 0},
		"an assignment with a room":  {Inst{Kind: Assignment, Cap: 1, Cost: square(2)}, 0},
		"a cover with an empty item": {Inst{Kind: Cover, Items: make([]Item, 1), Sets: make([]Set, 2)}, 0},
	} {
		if x.i.N() != x.want {
			t.Errorf("P9.2: %s: %d decisions, want %d", name, x.i.N(), x.want)
		}
	}
}

// P9.2: Equal

// fields are instances of which each differs from each other; of each list
// there are such as differ in their length alone, from either end, and such as
// differ in one number alone.
func fields() []Inst {
	l := []Inst{{}}
	for _, k := range []Kind{-1, Assignment, Tsp, Cover, Kinds} {
		l = append(l, Inst{Kind: k})
	}
	for _, n := range []int{-1, 1, math.MinInt, math.MaxInt} {
		l = append(l, Inst{Cap: int64(n)}, Inst{Size: n})
	}
	for _, items := range [][]Item{
		{{}}, {{}, {}}, {{1, 2}}, {{2, 1}}, {{1, 2}, {}}, {{}, {1, 2}}, {{1, 2}, {3, 4}}, {{3, 4}, {1, 2}}, {{1, 2}, {3, 5}}, {{1, 2}, {5, 4}},
		{{1, 6}, {3, 4}}, {{6, 2}, {3, 4}}, {{1, 2}, {3, 4}, {3, 4}},
	} {
		l = append(l, Inst{Items: items})
	}
	for _, cost := range [][][]int64{
		{{}}, {{}, {}}, {{0}}, {{0, 0}}, {{0}, {}}, {{}, {0}}, {{1}}, {{1, 2}, {3, 4}}, {{3, 4}, {1, 2}}, {{1, 2}, {3, 5}}, {{1, 2}, {5, 4}},
		{{1, 5}, {3, 4}}, {{5, 2}, {3, 4}}, {{1, 2, 3, 4}}, {{1}, {2, 3, 4}}, {{1, 2, 3}, {4}}, {{1, 2}}, {{1, 2}, {3, 4}, {}}, {{}, {1, 2}, {3, 4}},
	} {
		l = append(l, Inst{Cost: cost})
	}
	for _, sets := range [][]Set{
		{{}}, {{}, {}}, {{Cost: 1}}, {{Elems: []int{0}}}, {{Elems: []int{1}}}, {{Elems: []int{0, 0}}}, {{1, []int{1}}}, {{1, []int{1, 2}}, {3, []int{4}}},
		{{3, []int{4}}, {1, []int{1, 2}}}, {{1, []int{1, 2}}, {4, []int{4}}}, {{1, []int{1, 2}}, {3, []int{5}}}, {{1, []int{1, 3}}, {3, []int{4}}},
		{{1, []int{0, 2}}, {3, []int{4}}}, {{2, []int{1, 2}}, {3, []int{4}}}, {{1, []int{1, 2}}, {3, []int{4, 5}}}, {{1, []int{1}}, {3, []int{4}}},
		{{1, []int{1, 2}}, {3, nil}}, {{1, []int{1, 2}}}, {{1, []int{1, 2}}, {3, []int{4}}, {}},
	} {
		l = append(l, Inst{Sets: sets})
	}
	return append(l, Inst{Cap: 1, Items: []Item{{1, 2}}, Cost: [][]int64{{1}}, Size: 1, Sets: []Set{{1, []int{1}}}})
}

func TestEqual(t *testing.T) {
	for x, a := range fields() {
		for y, b := range fields() {
			if Equal(a, b) != (x == y) {
				t.Errorf("P9.2: Equal(%v, %v) is %t", a, b, Equal(a, b))
			}
		}
	}
}

// TestEqualOfEmptyLists: whether an empty list is nil makes no difference.
func TestEqualOfEmptyLists(t *testing.T) {
	for _, x := range [][2]Inst{
		{{}, {Items: []Item{}, Cost: [][]int64{}, Sets: []Set{}}},
		{{Cost: [][]int64{nil, {}}}, {Cost: [][]int64{{}, nil}}},
		{{Sets: []Set{{1, nil}, {2, []int{}}}}, {Sets: []Set{{1, []int{}}, {2, nil}}}},
	} {
		if !Equal(x[0], x[1]) || !Equal(x[1], x[0]) {
			t.Errorf("P9.2: %#v and %#v differ", x[0], x[1])
		}
	}
}

// TestEqualOfGreat: two that differ in their very last number alone.
func TestEqualOfGreat(t *testing.T) {
	for name, bend := range map[string]func(*Inst){
		"none":   func(i *Inst) {},
		"item":   func(i *Inst) { i.Items[api.MaxN-1].Weight++ },
		"number": func(i *Inst) { i.Cost[api.MaxSide-1][api.MaxSide-1]++ },
		"set":    func(i *Inst) { i.Sets[api.MaxN-1].Cost++ },
	} {
		a := Inst{Items: make([]Item, api.MaxN), Cost: square(api.MaxSide), Sets: make([]Set, api.MaxN)}
		b := Inst{Items: make([]Item, api.MaxN), Cost: square(api.MaxSide), Sets: make([]Set, api.MaxN)}
		bend(&b)
		if Equal(a, b) != (name == "none") || Equal(b, a) != (name == "none") {
			t.Errorf("P9.2: %s: Equal is %t", name, Equal(a, b))
		}
	}
}

// P9.2: Copy

func TestCopyIsTheSame(t *testing.T) {
	for _, a := range append(fields(), Inst{Cost: square(api.MaxSide), Items: make([]Item, api.MaxN), Sets: make([]Set, api.MaxN+1)}) {
		b := a.Copy()
		if !Equal(a, b) || text(a) != text(b) || a.Check() != b.Check() || a.N() != b.N() {
			t.Errorf("P9.2: the copy of %v is %v", a, b)
		}
	}
}

// text tells all of an instance, apart from Equal.
func text(i Inst) string {
	number := func(n int64) string { return strconv.FormatInt(n, 10) + " " }
	s := number(int64(i.Kind)) + number(i.Cap) + number(int64(i.Size)) + "items "
	for _, x := range i.Items {
		s += number(x.Value) + number(x.Weight)
	}
	for _, row := range i.Cost {
		s += "row "
		for _, n := range row {
			s += number(n)
		}
	}
	for _, x := range i.Sets {
		s += "set " + number(x.Cost)
		for _, n := range x.Elems {
			s += number(int64(n))
		}
	}
	return s
}
