package eval

import (
	"fmt"
	"slices"
	"testing"
	"unsafe"

	"secateur/api"
	"secateur/inst"
	"secateur/sample"
)

// Rules 2 to 4 and 7, and P1 and P2

// answers are lists, behind each of which something lies in its memory: by
// itself it may be an answer, and together with what lies there another one.
func answers() [][]int {
	var l [][]int
	for _, x := range [][]int{{0, 1, 2}, {1, 0, 7}, {0, 2, -1}, {-5, 1, 1}, {3, 3, 0}} {
		for n := range 3 {
			l = append(l, append([]int(nil), x...)[:n])
		}
	}
	return append(l, nil, []int{})
}

// TestReadsAsBefore: neither the instance nor the answer, nor what lies behind
// their lists, is written; nor does it count.
func TestReadsAsBefore(t *testing.T) {
	seen := 0
	for _, i := range sample.Behind() {
		for _, x := range answers() {
			whole, list := sample.Whole(i), fmt.Sprint(len(x), x[:cap(x)])
			may := Feasible(i, x)
			v, e := Value(i, x)
			c, eCost := Cost(i, x)
			s := Text(x)
			if got := sample.Whole(i); got != whole {
				t.Errorf("rule 4: of the instance %q became %q", whole, got)
			}
			if got := fmt.Sprint(len(x), x[:cap(x)]); got != list {
				t.Errorf("rule 4: of the answer %q became %q", list, got)
			}
			j, y := i.Copy(), slices.Clone(x)
			vAlone, eAlone := Value(j, y)
			cAlone, eCostAlone := Cost(j, y)
			if may != Feasible(j, y) || v != vAlone || e != eAlone || c != cAlone || eCost != eCostAlone || s != Text(y) {
				t.Errorf("rule 4: what lies behind the lists of %s counts", brief(i, x))
			}
			if i.Check() == api.OK {
				holds(t, i, x)
				seen++
			} else {
				tells(t, i, x, 0, 0, i.Check())
			}
		}
	}
	if seen < 50 {
		t.Errorf("%d answers were held against the model", seen)
	}
}

// TestEmptyLists: whether an empty list is nil makes no difference.
func TestEmptyLists(t *testing.T) {
	comes(t, inst.Inst{Cap: 5, Items: []inst.Item{}, Cost: [][]int64{}, Sets: []inst.Set{}}, 0)
	comes(t, inst.Inst{Kind: inst.Tsp, Items: []inst.Item{}, Cost: [][]int64{{0}}, Sets: []inst.Set{}}, 0, 0)
	comes(t, inst.Inst{Kind: inst.Cover, Items: []inst.Item{}, Cost: [][]int64{}, Sets: []inst.Set{{Cost: 1, Elems: []int{}}, {Cost: 2}}}, 3, 0, 1)
	tells(t, inst.Inst{Kind: inst.Tsp, Cost: [][]int64{}}, nil, 0, 0, api.ErrLimit)
	tells(t, inst.Inst{Kind: inst.Assignment, Cost: [][]int64{{}}}, []int{}, 0, 0, api.ErrForm)
}

// TestSharedLists: rows and sets may be one list, or parts of one.
func TestSharedLists(t *testing.T) {
	row, elems := []int64{0, 7, 0}, []int{0, 1, 2}
	comes(t, sample.Square(inst.Assignment, row[:2], row[:2]), 7, 1, 0)
	comes(t, sample.Square(inst.Tsp, row[:2], row[1:]), 14, 0, 1)
	comes(t, sample.Cover(3, inst.Set{Cost: 1, Elems: elems[:2]}, inst.Set{Cost: 20, Elems: elems[1:]}), 21, elems[:2]...)
}

// TestParseIsNewMemory: what is told is written by nobody else.
func TestParseIsNewMemory(t *testing.T) {
	for _, s := range []string{"5", "3 0 12", "0 1 2 3 4 5 6 7 8"} {
		a, _ := Parse(s)
		b, _ := Parse(s)
		whole := a[:cap(a)]
		for k := range whole {
			whole[k] = -1
		}
		if Text(b) != s || spans(a, b) {
			t.Errorf("rule 4: both lists of %q share memory", s)
		}
		signed(t, s, b...)
	}
}

// spans: is there memory that both lists have, within their lengths or behind?
func spans(a, b []int) bool {
	from, at := uintptr(unsafe.Pointer(unsafe.SliceData(a))), uintptr(unsafe.Pointer(unsafe.SliceData(b)))
	size := unsafe.Sizeof(0)
	return from < at+uintptr(cap(b))*size && at < from+uintptr(cap(a))*size
}

// TestCallsApart: what calls ahead of it told, or refused, the next one doesn't
// know.
func TestCallsApart(t *testing.T) {
	i, x := sample.Cover(3, inst.Set{Cost: 5, Elems: []int{0, 2}}, inst.Set{Cost: 4, Elems: []int{1}}), []int{0, 1}
	for _, other := range append(sample.Behind(), sample.Cover(3, inst.Set{Cost: 5, Elems: []int{0, 1, 2}}), inst.Inst{Kind: -1}) {
		for _, y := range answers() {
			v, e := Value(other, y)
			comes(t, i, 9, x...)
			mayNot(t, i, x[:1]...)
			signed(t, "0 1", x...)
			fails(t, Text(y)+" ")
			signed(t, "0 1", x...)
			if again, eAgain := Value(other, y); again != v || eAgain != e {
				t.Errorf("rule 7: Value(%s) is %d, %d, and then %d, %d", brief(other, y), v, e, again, eAgain)
			}
		}
	}
}
