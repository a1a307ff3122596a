package show

import (
	"strings"
	"testing"
	"unsafe"

	"secateur/api"
	"secateur/inst"
	"secateur/sample"
)

// Rules 2 to 4 and 7, and P1 and P2

// TestInstanceReadsAsBefore: neither the instance nor its lists, nor what lies
// behind them, is written; nor is any of this behind the lists told.
func TestInstanceReadsAsBefore(t *testing.T) {
	may := 0
	for _, i := range append(sample.Behind(), sized(1000), sized(api.MaxText), sized(api.MaxText+1)) {
		want := sample.Whole(i)
		s, e := Print(i)
		if got := sample.Whole(i); got != want {
			t.Errorf("rule 4: Print made of %.300q this: %.300q", want, got)
		}
		if again, eAgain := Print(i); again != s || eAgain != e {
			t.Errorf("rule 7: Print(%s) is %.300q, %d, and then %.300q, %d", brief(i), s, e, again, eAgain)
		}
		if i.Check() != api.OK {
			refuses(t, i, i.Check())
			continue
		}
		holds(t, i)
		may++
	}
	if may != 9 {
		t.Errorf("%d of the instances may be", may)
	}
}

// TestEmptyLists: one that is nil and one that is not are told the same.
func TestEmptyLists(t *testing.T) {
	prints(t, inst.Inst{Cap: 5, Items: []inst.Item{}, Cost: [][]int64{}, Sets: []inst.Set{}}, "knapsack", "capacity 5")
	prints(t, inst.Inst{Kind: inst.Tsp, Items: []inst.Item{}, Cost: [][]int64{{0}}, Sets: []inst.Set{}}, "tsp 1", "row 0")
	prints(t, inst.Inst{Kind: inst.Cover, Items: []inst.Item{}, Cost: [][]int64{}, Size: 3, Sets: []inst.Set{}}, "cover 3")
	prints(t, sample.Cover(3, inst.Set{Elems: []int{}}, inst.Set{}), "cover 3", "set 0:", "set 0:")
	refuses(t, sample.Square(inst.Assignment, []int64{}), api.ErrForm)
	refuses(t, inst.Inst{Kind: inst.Tsp, Cost: [][]int64{}}, api.ErrLimit)
}

// TestSharedLists: rows and sets may be one list, or parts of one.
func TestSharedLists(t *testing.T) {
	row, elems := []int64{0, 7, 0}, []int{1, 2, 4}
	prints(t, sample.Square(inst.Assignment, row[:2], row[:2]), "assignment 2", "row 0 7", "row 0 7")
	prints(t, sample.Square(inst.Tsp, row[:2], row[1:]), "tsp 2", "row 0 7", "row 7 0")
	prints(t, sample.Cover(5, inst.Set{Cost: 1, Elems: elems}, inst.Set{Cost: 2, Elems: elems[1:]}, inst.Set{Cost: 3, Elems: elems[:2]}), "cover 5", "set 1: 1 2 4", "set 2: 2 4", "set 3: 1 2")
}

// TestTidyIsNewMemory: of a text that is tidy, too, and of none of those told
// before.
func TestTidyIsNewMemory(t *testing.T) {
	for _, i := range sample.Behind() {
		s, e := Print(i)
		if e != api.OK {
			continue
		}
		other, _ := Print(i)
		first, _ := Tidy(s)
		second, _ := Tidy(s)
		told := []string{s, other, first, second}
		for n, a := range told {
			for _, b := range told[:n] {
				if a != b || within(a, b) || within(b, a) {
					t.Errorf("rule 4: two texts of %s share memory, or aren't the same: %q, %q", brief(i), a, b)
				}
			}
		}
	}
}

// within: does a begin in b's memory?
func within(a, b string) bool {
	at, from := uintptr(unsafe.Pointer(unsafe.StringData(a))), uintptr(unsafe.Pointer(unsafe.StringData(b)))
	return from <= at && at < from+uintptr(len(b))
}

// TestCallsApart: what calls ahead of it told, or refused, the next one doesn't
// know.
func TestCallsApart(t *testing.T) {
	i, s := sample.Cover(3, inst.Set{Cost: 5, Elems: []int{0, 2}}), "cover 3\nset 5: 0 2\n"
	for _, other := range append(sample.Behind(), sized(api.MaxText), sized(api.MaxText+1), inst.Inst{Kind: -1}) {
		text, e := Print(other)
		tidy, eTidy := Tidy(text)
		if got, e := Print(i); got != s || e != api.OK {
			t.Errorf("rule 7: behind Print(%s): %q, %d", brief(other), got, e)
		}
		if got, e := Tidy(strings.ReplaceAll(s, " ", "\t")); got != s || e != api.OK {
			t.Errorf("rule 7: behind Tidy(%.300q): %q, %d", text, got, e)
		}
		again, eAgain := Print(other)
		tidyAgain, eTidyAgain := Tidy(text)
		if again != text || eAgain != e || tidyAgain != tidy || eTidyAgain != eTidy {
			t.Errorf("rule 7: Print(%s) and Tidy of it are told otherwise the second time", brief(other))
		}
	}
}
