package inst

import (
	"math"
	"testing"

	"secateur/api"
)

// P9.1: Check

// checks tests what Check tells of an instance.
func checks(t *testing.T, name string, i Inst, want api.Errno) {
	t.Helper()
	if e := i.Check(); e != want {
		t.Errorf("P9.1: %s: Check is %d, want %d", name, e, want)
	}
}

// good are instances of each kind that may be, each with at least three of all
// that it may have.
func good() [Kinds]Inst {
	return [Kinds]Inst{
		Knapsack:   {Cap: 5, Items: []Item{{6, 3}, {5, 4}, {0, 0}}},
		Assignment: {Kind: Assignment, Cost: [][]int64{{4, 1, -3}, {2, 0, 7}, {1, -1, 9}}},
		Tsp:        {Kind: Tsp, Cost: [][]int64{{0, 1, -3}, {2, 0, 7}, {1, -1, 0}}},
		Cover:      {Kind: Cover, Size: 5, Sets: []Set{{5, []int{0, 2, 3}}, {0, []int{1, 3, 4}}, {7, []int{0, 1, 4}}}},
	}
}

func TestCheckOfKinds(t *testing.T) {
	for _, i := range good() {
		checks(t, i.Kind.Name(), i, api.OK)
		for _, k := range []Kind{-1, -2, Kinds, Kinds + 1, math.MinInt, math.MaxInt} {
			i.Kind = k
			checks(t, "no kind", i, api.ErrKind)
			checks(t, "no kind, and nothing", Inst{Kind: k}, api.ErrKind)
		}
	}
}

// TestCheckOfOthersFields: one field of another kind at a time.
func TestCheckOfOthersFields(t *testing.T) {
	with := map[string]func(*Inst){
		"cap 1":      func(i *Inst) { i.Cap = 1 },
		"cap -1":     func(i *Inst) { i.Cap = -1 },
		"an item":    func(i *Inst) { i.Items = []Item{{}} },
		"a row":      func(i *Inst) { i.Cost = [][]int64{{0}} },
		"empty row":  func(i *Inst) { i.Cost = [][]int64{nil} },
		"size 1":     func(i *Inst) { i.Size = 1 },
		"size -1":    func(i *Inst) { i.Size = -1 },
		"a set":      func(i *Inst) { i.Sets = []Set{{1, []int{0}}} },
		"an empty s": func(i *Inst) { i.Sets = []Set{{}} },
	}
	of := map[string][]Kind{
		"cap 1": {Knapsack}, "cap -1": {Knapsack}, "an item": {Knapsack},
		"a row": {Assignment, Tsp}, "empty row": {Assignment, Tsp},
		"size 1": {Cover}, "size -1": {Cover}, "a set": {Cover}, "an empty s": {Cover},
	}
	for name, add := range with {
		for k, i := range good() {
			own := false
			for _, x := range of[name] {
				own = own || x == Kind(k)
			}
			if !own {
				add(&i)
				checks(t, i.Kind.Name()+" with "+name, i, api.ErrForm)
			}
		}
	}
}

// TestCheckOfEmptyLists: a list without elements is as of nothing.
func TestCheckOfEmptyLists(t *testing.T) {
	for _, i := range good() {
		if len(i.Items) == 0 {
			i.Items = []Item{}
		}
		if len(i.Cost) == 0 {
			i.Cost = [][]int64{}
		}
		if len(i.Sets) == 0 {
			i.Sets = []Set{}
		}
		checks(t, i.Kind.Name()+" with empty lists", i, api.OK)
	}
	for _, k := range []Kind{Assignment, Tsp} {
		checks(t, "no rows", Inst{Kind: k, Cost: [][]int64{}}, api.ErrLimit)
		checks(t, "a row of none", Inst{Kind: k, Cost: [][]int64{{}}}, api.ErrForm)
	}
	checks(t, "sets of none", Inst{Kind: Cover, Sets: []Set{{1, nil}, {2, []int{}}}}, api.OK)
}

func TestCheckOfHowMany(t *testing.T) {
	for n, want := range map[int]api.Errno{
		0: api.OK, 1: api.OK, api.MaxN - 1: api.OK, api.MaxN: api.OK, api.MaxN + 1: api.ErrLimit, 2 * api.MaxN: api.ErrLimit,
	} {
		checks(t, "items", Inst{Items: make([]Item, n)}, want)
		checks(t, "sets", Inst{Kind: Cover, Sets: make([]Set, n)}, want)
		checks(t, "sets, and a size", Inst{Kind: Cover, Size: 7, Sets: make([]Set, n)}, want)
	}
	for n, want := range map[int]api.Errno{
		0: api.ErrLimit, 1: api.OK, 2: api.OK, api.MaxSide - 1: api.OK, api.MaxSide: api.OK, api.MaxSide + 1: api.ErrLimit, 2 * api.MaxSide: api.ErrLimit,
	} {
		for _, k := range []Kind{Assignment, Tsp} {
			checks(t, "rows of an "+k.Name(), Inst{Kind: k, Cost: square(n)}, want)
		}
	}
	for n, want := range map[int]api.Errno{
		-1: api.ErrLimit, 0: api.OK, 1: api.OK, api.MaxN: api.OK, api.MaxN + 1: api.ErrLimit, math.MinInt: api.ErrLimit, math.MaxInt: api.ErrLimit,
	} {
		checks(t, "size", Inst{Kind: Cover, Size: n}, want)
		checks(t, "size, and a set", Inst{Kind: Cover, Size: n, Sets: []Set{{}}}, want)
	}
}

// TestCheckOfNumbers: each number, at each place, at both its limits and
// beyond them.
func TestCheckOfNumbers(t *testing.T) {
	amounts := map[int64]api.Errno{
		-1: api.ErrLimit, 0: api.OK, 1: api.OK, api.MaxMag - 1: api.OK, api.MaxMag: api.OK, api.MaxMag + 1: api.ErrLimit,
		-api.MaxMag: api.ErrLimit, math.MinInt64: api.ErrLimit, math.MaxInt64: api.ErrLimit, 1 << 32: api.ErrLimit,
	}
	for n, want := range amounts {
		i := good()[Knapsack]
		i.Cap = n
		checks(t, "Cap", i, want)
		for at := range 3 {
			i := good()[Knapsack]
			i.Items[at].Value = n
			checks(t, "Value", i, want)
			i = good()[Knapsack]
			i.Items[at].Weight = n
			checks(t, "Weight", i, want)
			i = good()[Cover]
			i.Sets[at].Cost = n
			checks(t, "Cost", i, want)
		}
	}
	for n, want := range map[int64]api.Errno{
		0: api.OK, -1: api.OK, api.MaxMag: api.OK, -api.MaxMag: api.OK, api.MaxMag + 1: api.ErrLimit, -api.MaxMag - 1: api.ErrLimit,
		math.MinInt64: api.ErrLimit, math.MaxInt64: api.ErrLimit, 1 << 32: api.ErrLimit,
	} {
		for place := range 9 {
			a, b := good()[Assignment], good()[Tsp]
			a.Cost[place/3][place%3] = n
			checks(t, "Assignment", a, want)
			b.Cost[place/3][place%3] = n
			if place/3 == place%3 && n != 0 && want == api.OK {
				checks(t, "Tsp, at its own place", b, api.ErrForm)
			} else {
				checks(t, "Tsp", b, want)
			}
		}
	}
}

func TestCheckOfRows(t *testing.T) {
	for _, k := range []Kind{Assignment, Tsp} {
		for at := range 3 {
			for n := range 7 {
				i := good()[k]
				i.Cost[at] = make([]int64, n)
				want := api.ErrForm
				if n == 3 {
					want = api.OK
				}
				checks(t, "a row of another length", i, want)
			}
		}
		checks(t, "more rows than columns", Inst{Kind: k, Cost: [][]int64{{0, 0}, {0, 0}, {0, 0}}}, api.ErrForm)
		checks(t, "more columns than rows", Inst{Kind: k, Cost: [][]int64{{0, 0, 0}, {0, 0, 0}}}, api.ErrForm)
		checks(t, "one row of two", Inst{Kind: k, Cost: [][]int64{{0, 0}}}, api.ErrForm)
	}
}

func TestCheckOfElements(t *testing.T) {
	for _, x := range []struct {
		elems []int
		want  api.Errno
	}{
		{nil, api.OK}, {[]int{0}, api.OK}, {[]int{4}, api.OK}, {[]int{0, 1, 2, 3, 4}, api.OK}, {[]int{0, 4}, api.OK}, {[]int{2, 3}, api.OK},
		{[]int{-1}, api.ErrForm}, {[]int{5}, api.ErrForm}, {[]int{6}, api.ErrForm}, {[]int{-1, 0}, api.ErrForm}, {[]int{0, 5}, api.ErrForm},
		{[]int{0, 1, 2, 3, 4, 5}, api.ErrForm}, {[]int{0, 0}, api.ErrForm}, {[]int{1, 1}, api.ErrForm}, {[]int{4, 4}, api.ErrForm}, {[]int{1, 0}, api.ErrForm},
		{[]int{4, 3}, api.ErrForm}, {[]int{0, 2, 1}, api.ErrForm}, {[]int{0, 2, 2}, api.ErrForm}, {[]int{0, 3, 0}, api.ErrForm}, {[]int{0, 1, 4, 2}, api.ErrForm},
		{[]int{0, -1}, api.ErrForm}, {[]int{5, 4}, api.ErrForm}, {[]int{math.MinInt}, api.ErrForm}, {[]int{math.MaxInt}, api.ErrForm},
		{[]int{0, math.MaxInt}, api.ErrForm}, {[]int{math.MaxInt, math.MinInt}, api.ErrForm}, {[]int{math.MaxInt, 0}, api.ErrForm}, {[]int{0, math.MinInt, 1}, api.ErrForm},
	} {
		for at := range 3 {
			i := good()[Cover]
			i.Sets[at].Elems = x.elems
			checks(t, "elements", i, x.want)
		}
	}
	all := make([]int, api.MaxN)
	for n := range all {
		all[n] = n
	}
	checks(t, "all elements", Inst{Kind: Cover, Size: api.MaxN, Sets: []Set{{1, all}, {2, all}}}, api.OK)
	checks(t, "all elements but of a lesser size", Inst{Kind: Cover, Size: api.MaxN - 1, Sets: []Set{{1, all}}}, api.ErrForm)
	checks(t, "an element of size 0", Inst{Kind: Cover, Sets: []Set{{1, []int{0}}}}, api.ErrForm)
	checks(t, "the same elements in unlike sets", Inst{Kind: Cover, Size: 2, Sets: []Set{{1, []int{1}}, {1, []int{0}}, {1, []int{1}}}}, api.OK)
}

// TestCheckOfOwnPlaces: of a Tsp they must be 0, of an Assignment needn't.
func TestCheckOfOwnPlaces(t *testing.T) {
	for _, n := range []int64{1, -1, 5, api.MaxMag, -api.MaxMag} {
		for at := range 3 {
			a, b := good()[Assignment], good()[Tsp]
			a.Cost[at][at], b.Cost[at][at] = n, n
			checks(t, "Assignment, at its own place", a, api.OK)
			checks(t, "Tsp, at its own place", b, api.ErrForm)
		}
		checks(t, "Tsp of one row", Inst{Kind: Tsp, Cost: [][]int64{{n}}}, api.ErrForm)
		checks(t, "Assignment of one row", Inst{Kind: Assignment, Cost: [][]int64{{n}}}, api.OK)
	}
}

// fault is one for which Check tells an error, with its turn among those, and
// how an instance of a kind gets it, in place at where there are several.
type fault struct {
	name string
	turn int
	want api.Errno
	kind Kind
	bend func(i *Inst, at int)
}

// faults are by their turns. Each later one can be had beside each earlier one.
func faults() []fault {
	l := []fault{
		{"more items", 3, api.ErrLimit, Knapsack, func(i *Inst, at int) { i.Items = append(make([]Item, api.MaxN), i.Items...) }},
		{"cap", 5, api.ErrLimit, Knapsack, func(i *Inst, at int) { i.Cap = -1 }},
		{"value", 5, api.ErrLimit, Knapsack, func(i *Inst, at int) { i.Items[at].Value = api.MaxMag + 1 }},
		{"weight", 5, api.ErrLimit, Knapsack, func(i *Inst, at int) { i.Items[at].Weight = -1 }},
		{"more sets", 3, api.ErrLimit, Cover, func(i *Inst, at int) { i.Sets = append(i.Sets, make([]Set, api.MaxN)...) }},
		{"size below", 3, api.ErrLimit, Cover, func(i *Inst, at int) { i.Size = -1 }},
		{"size above", 3, api.ErrLimit, Cover, func(i *Inst, at int) { i.Size = api.MaxN + 1 }},
		{"element below", 4, api.ErrForm, Cover, func(i *Inst, at int) { i.Sets[at].Elems[0] = -1 }},
		{"element above", 4, api.ErrForm, Cover, func(i *Inst, at int) { i.Sets[at].Elems[2] = api.MaxN + 1 }},
		{"elements fall", 4, api.ErrForm, Cover, func(i *Inst, at int) { i.Sets[at].Elems[1] = 0 }},
		{"cost", 5, api.ErrLimit, Cover, func(i *Inst, at int) { i.Sets[at].Cost = -1 }},
	}
	for _, k := range []Kind{Assignment, Tsp} {
		l = append(l,
			fault{"more rows", 3, api.ErrLimit, k, func(i *Inst, at int) { i.Cost = append(i.Cost, square(api.MaxSide)...) }},
			fault{"shorter", 4, api.ErrForm, k, func(i *Inst, at int) { i.Cost[at] = i.Cost[at][:len(i.Cost[at])-1] }},
			fault{"longer", 4, api.ErrForm, k, func(i *Inst, at int) { i.Cost[at] = append(i.Cost[at], 0) }},
			fault{"above", 5, api.ErrLimit, k, func(i *Inst, at int) { i.Cost[at][(at+1)%2] = api.MaxMag + 1 }},
			fault{"below", 5, api.ErrLimit, k, func(i *Inst, at int) { i.Cost[at][(at+1)%2] = -api.MaxMag - 1 }},
		)
	}
	l = append(l,
		fault{"own place", 6, api.ErrForm, Tsp, func(i *Inst, at int) { i.Cost[at%2][at%2]++ }},
		fault{"own place, beyond", 5, api.ErrLimit, Tsp, func(i *Inst, at int) { i.Cost[at%2][at%2] = api.MaxMag + 1 }},
	)
	for k := range Kinds {
		for _, n := range []Kind{-1, Kinds} {
			l = append(l, fault{"no kind", 1, api.ErrKind, k, func(i *Inst, at int) { i.Kind = n }})
		}
		for _, x := range good() {
			if other := x.Kind; other != k && !(other == Assignment && k == Tsp) && !(other == Tsp && k == Assignment) {
				l = append(l, fault{"fields of another kind", 2, api.ErrForm, k, func(i *Inst, at int) {
					i.Cap, i.Size = i.Cap+x.Cap, i.Size+x.Size
					i.Items, i.Cost, i.Sets = append(i.Items, x.Items...), append(i.Cost, x.Cost...), append(i.Sets, x.Sets...)
				}})
			}
		}
	}
	return l
}

// TestCheckOrder: of each two faults, wherever they are, the one whose turn is
// first is told.
func TestCheckOrder(t *testing.T) {
	for _, a := range faults() {
		for _, b := range faults() {
			if a.kind != b.kind || a.turn > b.turn {
				continue
			}
			for place := range 9 {
				i := good()[a.kind]
				a.bend(&i, place/3)
				checks(t, a.kind.Name()+", "+a.name, i, a.want)
				if a.turn < b.turn {
					b.bend(&i, place%3)
					checks(t, a.kind.Name()+", "+a.name+", "+b.name, i, a.want)
				}
			}
		}
	}
}

// TestCheckOrderOfNoRows: with too few of them, only the kind and fields of
// another kind can be wrong, too.
func TestCheckOrderOfNoRows(t *testing.T) {
	for _, k := range []Kind{Assignment, Tsp} {
		checks(t, "no rows", Inst{Kind: k}, api.ErrLimit)
		checks(t, "no rows, but sets", Inst{Kind: k, Sets: []Set{{}}}, api.ErrForm)
		checks(t, "no rows, but a size", Inst{Kind: k, Size: api.MaxN + 1}, api.ErrForm)
		checks(t, "no rows, but a cap", Inst{Kind: k, Cap: -1}, api.ErrForm)
		checks(t, "no rows, but too many items", Inst{Kind: k, Items: make([]Item, api.MaxN+1)}, api.ErrForm)
	}
	checks(t, "too many rows of a knapsack", Inst{Cost: square(api.MaxSide + 1)}, api.ErrForm)
	checks(t, "a bad row of a cover", Inst{Kind: Cover, Size: -1, Cost: [][]int64{{1, 2}}}, api.ErrForm)
}
