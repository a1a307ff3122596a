package parse

import (
	"testing"
	"unsafe"

	"secateur/api"
	"secateur/inst"
	"secateur/lex"
)

// Rules 2 to 4 and 7, and P1 and P2

// each are texts of each kind, with several of all lists.
var each = []string{
	"knapsack capacity 5 item 6 3 item 5 4 item 1 1",
	"assignment 3 row 1 2 3 row 4 5 6 row 7 8 9",
	"tsp 3 row 0 2 3 row 4 0 6 row 7 8 0",
	"cover 9 set 5: 0 1 2 set 6: set 7: 3 set 8: 4 5 6 7 8",
}

// overwrite writes to all of an instance's lists, and behind them, and tells
// whether something lay there.
func overwrite(i inst.Inst) bool {
	found := false
	for at, x := range i.Items[:cap(i.Items)] {
		found = found || at >= len(i.Items) && x != inst.Item{}
		i.Items[:cap(i.Items)][at] = inst.Item{Value: -9, Weight: -9}
	}
	for at, row := range i.Cost[:cap(i.Cost)] {
		found = found || at >= len(i.Cost) && row != nil || isBehind(row)
		for c := range row[:cap(row)] {
			row[:cap(row)][c] = -9
		}
		i.Cost[:cap(i.Cost)][at] = nil
	}
	for at, x := range i.Sets[:cap(i.Sets)] {
		found = found || at >= len(i.Sets) && (x.Cost != 0 || x.Elems != nil) || isBehind(x.Elems)
		for c := range x.Elems[:cap(x.Elems)] {
			x.Elems[:cap(x.Elems)][c] = -9
		}
		i.Sets[:cap(i.Sets)][at] = inst.Set{Cost: -9}
	}
	return found
}

func isBehind[T int | int64](l []T) bool {
	for _, x := range l[len(l):cap(l)] {
		if x != 0 {
			return true
		}
	}
	return false
}

// TestAnswersApart: what is written to an answer, or behind its lists, no
// other one sees, and the next call tells the same.
func TestAnswersApart(t *testing.T) {
	for _, s := range each {
		first, _, _ := Parse(s)
		second, _, _ := Parse(s)
		want := first.Copy()
		if overwrite(first) {
			t.Errorf("rule 4: something lies behind the lists of Parse(%q)", s)
		}
		third, at, e := Parse(s)
		if !inst.Equal(second, want) || !inst.Equal(third, want) || at != (lex.Pos{}) || e != api.OK {
			t.Errorf("rule 4: an answer was written: others are %v, and %v, %v, %d; want %v", second, third, at, e, want)
		}
	}
}

// TestListsShareNoMemory: no two lists of an answer do, not even behind their
// lengths.
func TestListsShareNoMemory(t *testing.T) {
	span := func(from unsafe.Pointer, size uintptr) [2]uintptr {
		return [2]uintptr{uintptr(from), uintptr(from) + size}
	}
	for _, s := range each {
		i, _, _ := Parse(s)
		var l [][2]uintptr
		for _, row := range i.Cost {
			l = append(l, span(unsafe.Pointer(unsafe.SliceData(row)), uintptr(cap(row))*unsafe.Sizeof(int64(0))))
		}
		for _, x := range i.Sets {
			l = append(l, span(unsafe.Pointer(unsafe.SliceData(x.Elems)), uintptr(cap(x.Elems))*unsafe.Sizeof(0)))
		}
		for n, x := range l {
			for _, y := range l[:n] {
				if x[0] < y[1] && y[0] < x[1] {
					t.Errorf("rule 4: two lists of Parse(%q) share memory", s)
				}
			}
		}
	}
}

// TestParseAfterFailing: what a call failed at, the next one doesn't know.
func TestParseAfterFailing(t *testing.T) {
	want := sets(3, inst.Set{Cost: 5, Elems: []int{0, 2}})
	for _, bad := range []string{
		"", "?", "cover 3 set 5: 0 2 ?", "cover 3 set 5: 0 2 x", "cover 4097", "knapsack capacity 5 item 6 3 item 5", "assignment 2 row 1 2 row 3", "tsp 2 row 0 1 row 2 3",
		"cover 3 set 5: 0 2 set 5: 0 3", "9223372036854775808",
	} {
		_, at, e := Parse(bad)
		parses(t, "cover 3 set 5: 0 2", want)
		i, again, eAgain := Parse(bad)
		if e == api.OK || at == (lex.Pos{}) || at != again || e != eAgain {
			t.Errorf("rule 7: Parse(%q) failed at %v and %v, with %d and %d", bad, at, again, e, eAgain)
		}
		isNothing(t, bad, i)
	}
}
