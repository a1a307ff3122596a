package show

import (
	"fmt"
	"math"
	"slices"
	"strings"
	"testing"

	"secateur/api"
	"secateur/inst"
	"secateur/sample"
)

// P11.1: Print

// prints tests that of an instance those lines are printed, each with its line
// feed, and what P11.2 says of them.
func prints(t *testing.T, i inst.Inst, lines ...string) {
	t.Helper()
	want := strings.Join(lines, "\n") + "\n"
	if s, e := Print(i); s != want || e != api.OK {
		t.Errorf("P11.1: Print(%s) is %.300q, %d; want %.300q", brief(i), s, e, want)
	}
	holds(t, i)
}

// refuses tests that of an instance no text is printed, but an error told.
func refuses(t *testing.T, i inst.Inst, want api.Errno) {
	t.Helper()
	if s, e := Print(i); s != "" || e != want {
		t.Errorf("P11.1: Print(%s) is %.300q, %d; want no text, %d", brief(i), s, e, want)
	}
}

// brief tells an instance, but for the end of a great one.
func brief(i inst.Inst) string {
	return fmt.Sprintf("%.200s", fmt.Sprintf("%+v", i))
}

func TestPrintKnapsacks(t *testing.T) {
	prints(t, sample.Knapsack(0), "knapsack", "capacity 0")
	prints(t, sample.Knapsack(5), "knapsack", "capacity 5")
	prints(t, sample.Knapsack(0, inst.Item{}), "knapsack", "capacity 0", "item 0 0")
	prints(t, sample.Knapsack(5, inst.Item{Value: 6, Weight: 3}), "knapsack", "capacity 5", "item 6 3")
	prints(t, sample.Knapsack(10, inst.Item{Value: 6, Weight: 3}, inst.Item{Value: 5, Weight: 4}, inst.Item{Value: 6, Weight: 3}, inst.Item{Weight: 7}, inst.Item{Value: 12}),
		"knapsack", "capacity 10", "item 6 3", "item 5 4", "item 6 3", "item 0 7", "item 12 0")
}

func TestPrintSquares(t *testing.T) {
	for k, word := range map[inst.Kind]string{inst.Assignment: "assignment", inst.Tsp: "tsp"} {
		prints(t, sample.Square(k, []int64{0}), word+" 1", "row 0")
		prints(t, sample.Square(k, []int64{0, 1}, []int64{-2, 0}), word+" 2", "row 0 1", "row -2 0")
		prints(t, sample.Square(k, []int64{0, 1, -2}, []int64{30, 0, 4}, []int64{5, -60, 0}), word+" 3", "row 0 1 -2", "row 30 0 4", "row 5 -60 0")
	}
	prints(t, sample.Square(inst.Assignment, []int64{7}), "assignment 1", "row 7")
	prints(t, sample.Square(inst.Assignment, []int64{-7}), "assignment 1", "row -7")
	prints(t, sample.Square(inst.Assignment, []int64{4, 1}, []int64{2, -3}), "assignment 2", "row 4 1", "row 2 -3")
}

// TestPrintCovers: the Colon stands directly behind a set's Cost, and behind
// it a blank, if an element follows.
func TestPrintCovers(t *testing.T) {
	prints(t, sample.Cover(0), "cover 0")
	prints(t, sample.Cover(3), "cover 3")
	prints(t, sample.Cover(0, inst.Set{}), "cover 0", "set 0:")
	prints(t, sample.Cover(0, inst.Set{Cost: 5}, inst.Set{Cost: 5, Elems: []int{}}), "cover 0", "set 5:", "set 5:")
	prints(t, sample.Cover(1, inst.Set{Cost: 5, Elems: []int{0}}), "cover 1", "set 5: 0")
	prints(t, sample.Cover(3, inst.Set{Cost: 5, Elems: []int{0, 2}}), "cover 3", "set 5: 0 2")
	prints(t, sample.Cover(12, inst.Set{Cost: 15, Elems: []int{0, 1, 2, 10, 11}}, inst.Set{Elems: []int{1, 2}}, inst.Set{Cost: 4}, inst.Set{Cost: 15, Elems: []int{11}}),
		"cover 12", "set 15: 0 1 2 10 11", "set 0: 1 2", "set 4:", "set 15: 11")
}

// amounts are numbers with their decimals: of one digit and of more, up to the
// most that may be, with both limits.
func amounts() map[int64]string {
	return map[int64]string{
		0: "0", 1: "1", 7: "7", 9: "9", 10: "10", 11: "11", 99: "99", 100: "100", 101: "101", 1000: "1000", 4096: "4096", 65535: "65535", 65536: "65536", 1000000: "1000000",
		999999999: "999999999", 1000000000: "1000000000", 2147483647: "2147483647", 2147483648: "2147483648",
	}
}

// TestPrintNumbers: each number, at each place, as it is from its one limit to
// the other.
func TestPrintNumbers(t *testing.T) {
	for n, s := range amounts() {
		one, two := inst.Item{Value: 6, Weight: 3}, inst.Item{Value: 5, Weight: 4}
		prints(t, sample.Knapsack(n, one), "knapsack", "capacity "+s, "item 6 3")
		prints(t, sample.Knapsack(9, inst.Item{Value: n, Weight: 3}, two), "knapsack", "capacity 9", "item "+s+" 3", "item 5 4")
		prints(t, sample.Knapsack(9, inst.Item{Value: 6, Weight: n}, two), "knapsack", "capacity 9", "item 6 "+s, "item 5 4")
		prints(t, sample.Knapsack(9, one, inst.Item{Value: n, Weight: 4}), "knapsack", "capacity 9", "item 6 3", "item "+s+" 4")
		prints(t, sample.Knapsack(9, one, inst.Item{Value: 5, Weight: n}), "knapsack", "capacity 9", "item 6 3", "item 5 "+s)
		prints(t, sample.Knapsack(n, inst.Item{Value: n, Weight: n}), "knapsack", "capacity "+s, "item "+s+" "+s)
		prints(t, sample.Cover(3, inst.Set{Cost: n}, inst.Set{Cost: 8, Elems: []int{1}}), "cover 3", "set "+s+":", "set 8: 1")
		prints(t, sample.Cover(3, inst.Set{Cost: 8, Elems: []int{1}}, inst.Set{Cost: n, Elems: []int{0, 2}}), "cover 3", "set 8: 1", "set "+s+": 0 2")
		printsInRows(t, n, s)
		if n > 0 {
			printsInRows(t, -n, "-"+s)
		}
		if n <= api.MaxN {
			prints(t, sample.Cover(int(n)), "cover "+s)
		}
		if n < api.MaxN {
			prints(t, sample.Cover(int(n)+1, inst.Set{Cost: 8, Elems: []int{int(n)}}), fmt.Sprint("cover ", n+1), "set 8: "+s)
			prints(t, sample.Cover(api.MaxN, inst.Set{Cost: 8, Elems: []int{int(n)}}), "cover 4096", "set 8: "+s)
		}
	}
	prints(t, sample.Cover(api.MaxN, inst.Set{Cost: 8, Elems: []int{0, 9, 10, 99, 100, 999, 1000, 4094, 4095}}), "cover 4096", "set 8: 0 9 10 99 100 999 1000 4094 4095")
}

// printsInRows tests a number at each place of rows.
func printsInRows(t *testing.T, n int64, s string) {
	t.Helper()
	for at := range 4 {
		l, signs := []int64{3, -4, 5, 6}, []string{"3", "-4", "5", "6"}
		l[at], signs[at] = n, s
		prints(t, sample.Square(inst.Assignment, l[:2], l[2:]), "assignment 2", "row "+signs[0]+" "+signs[1], "row "+signs[2]+" "+signs[3])
		if at == 1 || at == 2 {
			l[0], l[3] = 0, 0
			prints(t, sample.Square(inst.Tsp, l[:2], l[2:]), "tsp 2", "row 0 "+signs[1], "row "+signs[2]+" 0")
		}
	}
	prints(t, sample.Square(inst.Assignment, []int64{n}), "assignment 1", "row "+s)
}

// TestPrintAsManyAsMayBe: all items and rows that may be, with numbers of the
// most digits, and all sets.
func TestPrintAsManyAsMayBe(t *testing.T) {
	i, lines := sample.Knapsack(api.MaxMag), []string{"knapsack", "capacity 2147483648"}
	for range api.MaxN {
		i.Items, lines = append(i.Items, inst.Item{Value: api.MaxMag, Weight: api.MaxMag}), append(lines, "item 2147483648 2147483648")
	}
	prints(t, i, lines...)
	for k, word := range map[inst.Kind]string{inst.Assignment: "assignment 64", inst.Tsp: "tsp 64"} {
		i, lines := sample.Square(k), []string{word}
		for r := range api.MaxSide {
			row, signs := make([]int64, api.MaxSide), make([]string, api.MaxSide)
			for at := range row {
				row[at], signs[at] = -api.MaxMag, "-2147483648"
				if k == inst.Tsp && at == r {
					row[at], signs[at] = 0, "0"
				}
			}
			i.Cost, lines = append(i.Cost, row), append(lines, "row "+strings.Join(signs, " "))
		}
		prints(t, i, lines...)
	}
	i, lines = sample.Cover(api.MaxN), []string{"cover 4096"}
	for n := range api.MaxN {
		i.Sets, lines = append(i.Sets, inst.Set{Cost: api.MaxMag, Elems: []int{n}}), append(lines, fmt.Sprint("set 2147483648: ", n))
	}
	prints(t, i, lines...)
}

// TestPrintWhatMayNotBe: each error of Check, of each kind, is told, and no text.
func TestPrintWhatMayNotBe(t *testing.T) {
	for _, x := range sample.Wrongs() {
		refuses(t, x.Inst, x.Want)
	}
}

// all are all elements of a size.
func all(size int) []int {
	l := make([]int, size)
	for at := range l {
		l[at] = at
	}
	return l
}

// sized is a cover whose lines are so many bytes, at least 18: sets of all
// elements, small ones, and behind them a last one that fills up.
func sized(n int) inst.Inst {
	i := sample.Cover(api.MaxN)
	n -= len("cover 4096\n")
	whole := inst.Set{Elems: all(api.MaxN)}
	full := len(model(sample.Cover(0, whole))) - len("cover 0\n")
	for n >= full+len("set 0:\n") {
		i.Sets, n = append(i.Sets, whole), n-full
	}
	for n > len("set 1000000:\n") {
		i.Sets, n = append(i.Sets, inst.Set{Cost: 5}), n-len("set 5:\n")
	}
	i.Sets = append(i.Sets, inst.Set{Cost: int64(math.Pow10(n - len("set 0:\n")))})
	return i
}

// TestPrintOfLength: lines of just as many bytes as there may be, and of one
// more, wherever that byte is, and of any more.
func TestPrintOfLength(t *testing.T) {
	for _, n := range []int{18, 19, 100, 1000, 20000, api.MaxText - 2, api.MaxText - 1, api.MaxText} {
		i := sized(n)
		if s := model(i); len(s) != n {
			t.Fatalf("the cover for %d bytes has %d", n, len(s))
		}
		prints(t, i, linesOf(model(i))...)
	}
	for _, more := range []int{1, 2, 3, 7, 8, 100, api.MaxText} {
		n := api.MaxText + more
		i := sized(n)
		if s := model(i); len(s) != n {
			t.Fatalf("the cover for %d bytes has %d", n, len(s))
		}
		refuses(t, i, api.ErrLong)
	}
	for name, grow := range map[string]func(i *inst.Inst){
		"a first set's Cost":  func(i *inst.Inst) { i.Sets[0].Cost = 10 },
		"a middle set's Cost": func(i *inst.Inst) { i.Sets[len(i.Sets)/2].Cost = 10 },
		"a last set's Cost":   func(i *inst.Inst) { i.Sets[len(i.Sets)-1].Cost *= 10 },
		"one more element":    func(i *inst.Inst) { i.Sets[len(i.Sets)-1].Elems = []int{0} },
		"one more set":        func(i *inst.Inst) { i.Sets = append(i.Sets, inst.Set{}) },
		"some more sets":      func(i *inst.Inst) { i.Sets = append(i.Sets, make([]inst.Set, 100)...) },
	} {
		i := sized(api.MaxText)
		grow(&i)
		if i.Check() != api.OK {
			t.Fatalf("with %s there mayn't be such a cover", name)
		}
		refuses(t, i, api.ErrLong)
	}
	refuses(t, sample.Cover(api.MaxN, slices.Repeat([]inst.Set{{Cost: api.MaxMag, Elems: all(api.MaxN)}}, api.MaxN)...), api.ErrLong)
}

// TestCheckComesAheadOfLength: of what mayn't be, and is too long, the error of
// Check is told.
func TestCheckComesAheadOfLength(t *testing.T) {
	for _, x := range []struct {
		bend func(i *inst.Inst)
		want api.Errno
	}{
		{func(i *inst.Inst) { i.Kind = inst.Kinds }, api.ErrKind}, {func(i *inst.Inst) { i.Cap = 1 }, api.ErrForm}, {func(i *inst.Inst) { i.Size = api.MaxN + 1 }, api.ErrLimit},
		{func(i *inst.Inst) { i.Size-- }, api.ErrForm}, {func(i *inst.Inst) { i.Sets[len(i.Sets)-1].Cost = -1 }, api.ErrLimit},
		{func(i *inst.Inst) { i.Sets = append(i.Sets, make([]inst.Set, api.MaxN)...) }, api.ErrLimit}, {func(i *inst.Inst) { i.Sets[len(i.Sets)-1].Elems = []int{1, 0} }, api.ErrForm},
	} {
		i := sized(api.MaxText + 100)
		refuses(t, i, api.ErrLong)
		x.bend(&i)
		refuses(t, i, x.want)
	}
}
