package parse

import (
	"math"
	"strconv"
	"strings"
	"testing"

	"secateur/api"
	"secateur/inst"
)

// P10.1: limits, elements, and own places

func text(n int64) string {
	return strconv.FormatInt(n, 10)
}

// limited tests the Number that stands as @ in a text: at both its limits and
// near them it is taken, to where put puts it, and one beyond each fails
// there, with ErrLimit.
func limited(t *testing.T, s string, least, most int64, i inst.Inst, put func(i *inst.Inst, n int64)) {
	t.Helper()
	head, tail, _ := strings.Cut(s, "@")
	for _, n := range []int64{least, min(least+1, most), max(most-1, least), most} {
		want := i.Copy()
		put(&want, n)
		parses(t, head+text(n)+tail, want)
		parses(t, head+"# \u20ac\n"+strings.Replace(text(n), "-", "-0", 1)+tail, want)
	}
	for _, n := range []int64{least - 1, most + 1, 2 * most, -most - 2, 1 << 32, -1 << 32, math.MinInt64, math.MaxInt64} {
		if n < least || n > most {
			failsBehind(t, head, text(n), api.ErrLimit)
			fails(t, head+text(n)+tail, 1, 1+len(head), api.ErrLimit)
		}
	}
}

func TestLimitsOfKnapsacks(t *testing.T) {
	i := inst.Inst{Cap: 9, Items: []inst.Item{{Value: 1, Weight: 2}, {Value: 3, Weight: 4}, {Value: 5, Weight: 6}}}
	limited(t, "knapsack capacity @", 0, api.MaxMag, inst.Inst{}, func(i *inst.Inst, n int64) { i.Cap = n })
	limited(t, "knapsack capacity @ item 1 2 item 3 4 item 5 6", 0, api.MaxMag, i, func(i *inst.Inst, n int64) { i.Cap = n })
	for at, s := range []string{
		"knapsack capacity 9 item @ 2 item 3 4 item 5 6", "knapsack capacity 9 item 1 2 item @ 4 item 5 6", "knapsack capacity 9 item 1 2 item 3 4 item @ 6",
	} {
		limited(t, s, 0, api.MaxMag, i, func(i *inst.Inst, n int64) { i.Items[at].Value = n })
	}
	for at, s := range []string{
		"knapsack capacity 9 item 1 @ item 3 4 item 5 6", "knapsack capacity 9 item 1 2 item 3 @ item 5 6", "knapsack capacity 9 item 1 2 item 3 4 item 5 @",
	} {
		limited(t, s, 0, api.MaxMag, i, func(i *inst.Inst, n int64) { i.Items[at].Weight = n })
	}
}

func TestLimitsOfSquares(t *testing.T) {
	for k, s := range map[inst.Kind]string{inst.Assignment: "assignment ", inst.Tsp: "tsp "} {
		i := inst.Inst{Kind: k, Cost: [][]int64{{0, 1, 2}, {3, 0, -4}, {5, -6, 0}}}
		l := []string{"0", "1", "2", "3", "0", "-4", "5", "-6", "0"}
		for at := range l {
			own := at/3 == at%3
			if own && k == inst.Tsp {
				continue
			}
			x := append([]string(nil), l...)
			x[at] = "@"
			limited(t, s+"3 row "+strings.Join(x[:3], " ")+" row "+strings.Join(x[3:6], " ")+" row "+strings.Join(x[6:], " "), -api.MaxMag, api.MaxMag, i,
				func(i *inst.Inst, n int64) { i.Cost[at/3][at%3] = n })
		}
		for n := int64(-2); n <= api.MaxSide+2; n++ {
			if n >= 1 && n <= api.MaxSide {
				parses(t, s+text(n)+strings.Repeat(" row"+strings.Repeat(" 0", int(n)), int(n)), inst.Inst{Kind: k, Cost: zeros(int(n))})
			} else {
				failsBehind(t, s, text(n), api.ErrLimit)
			}
		}
		for _, n := range []int64{math.MinInt64, math.MaxInt64, -api.MaxSide, 1<<32 + 1, -1<<32 + 1, 1 << 20} {
			failsBehind(t, s, text(n), api.ErrLimit)
		}
	}
}

// zeros are n rows of n numbers.
func zeros(n int) [][]int64 {
	l := make([][]int64, n)
	for at := range l {
		l[at] = make([]int64, n)
	}
	return l
}

func TestLimitsOfCovers(t *testing.T) {
	limited(t, "cover @", 0, api.MaxN, sets(0), func(i *inst.Inst, n int64) { i.Size = int(n) })
	limited(t, "cover @ set 5: set 6:", 0, api.MaxN, sets(0, inst.Set{Cost: 5}, inst.Set{Cost: 6}), func(i *inst.Inst, n int64) { i.Size = int(n) })
	i := sets(3, inst.Set{Cost: 1, Elems: []int{0, 2}}, inst.Set{Cost: 2}, inst.Set{Cost: 3, Elems: []int{1}})
	for at, s := range []string{"cover 3 set @: 0 2 set 2: set 3: 1", "cover 3 set 1: 0 2 set @ : set 3: 1", "cover 3 set 1: 0 2 set 2: set @: 1"} {
		limited(t, s, 0, api.MaxMag, i, func(i *inst.Inst, n int64) { i.Sets[at].Cost = n })
	}
}

// TestHowManyItemsAndSets: as many as there may be, and one more, at which the
// text fails, whatever comes behind it.
func TestHowManyItemsAndSets(t *testing.T) {
	for _, n := range []int{api.MaxN - 1, api.MaxN} {
		s, i := "knapsack capacity 5", inst.Inst{Cap: 5}
		for at := range n {
			s, i.Items = s+" item "+strconv.Itoa(at)+" 7", append(i.Items, inst.Item{Value: int64(at), Weight: 7})
		}
		parses(t, s, i)
		if n == api.MaxN {
			failsBehind(t, s+" ", "item", api.ErrLimit)
			failsBehind(t, s+" ", "items", api.ErrForm)
			failsBehind(t, s+" ", "7", api.ErrForm)
			failsBehind(t, s+"\n", "item 5 4 item", api.ErrLimit)
			fails(t, s+"\nitem ?", 2, 6, api.ErrByte)
		}
		s, i = "cover 4096", sets(api.MaxN)
		for at := range n {
			s, i.Sets = s+" set 7: "+strconv.Itoa(at), append(i.Sets, inst.Set{Cost: 7, Elems: []int{at}})
		}
		parses(t, s, i)
		if n == api.MaxN {
			failsBehind(t, s+" ", "set", api.ErrLimit)
			failsBehind(t, s+" ", "sets", api.ErrForm)
			failsBehind(t, s+" ", ":", api.ErrForm)
			failsBehind(t, s+"\n", "set 5: 0 set", api.ErrLimit)
			fails(t, s+"\nset 1a", 2, 5, api.ErrWord)
		}
	}
	failsBehind(t, "knapsack capacity 5"+strings.Repeat("\nitem 1 2", api.MaxN)+"\n", "item", api.ErrLimit)
	failsBehind(t, "cover 0"+strings.Repeat("\nset 1:", api.MaxN)+"\n", "set", api.ErrLimit)
	failsBehind(t, "cover 1"+strings.Repeat("\nset 1: 0", api.MaxN)+" ", "0", api.ErrForm)
	failsBehind(t, "knapsack capacity 5"+strings.Repeat(" item 1 2", api.MaxN-1)+" item 1 ", "-1", api.ErrLimit)
	failsBehind(t, "knapsack capacity 5"+strings.Repeat(" item 1 2", api.MaxN-1)+" item 1 ", "item", api.ErrForm)
	failsBehind(t, "cover 0"+strings.Repeat(" set 1:", api.MaxN-1)+" set ", "set", api.ErrForm)
}

func TestElements(t *testing.T) {
	for size := 1; size <= 5; size++ {
		last := strconv.Itoa(size - 1)
		for ahead, from := range map[string]int{"set 3:": 0, "set 0: ": 0, "set 5: " + last + " set 7: ": 0, "set 1: 0 ": 1, "set 2: " + last: size} {
			head := "cover " + strconv.Itoa(size) + " " + ahead
			for _, n := range []int{-2, -1, from - 1, size, size + 1, size + 2} {
				failsBehind(t, head+" ", strconv.Itoa(n), api.ErrForm)
			}
			for n := from; n < size; n++ {
				want, _, _ := Parse(head)
				last := &want.Sets[len(want.Sets)-1]
				last.Elems = append(last.Elems, n)
				parses(t, head+" "+strconv.Itoa(n), want)
				parses(t, head+"\n"+strconv.Itoa(n)+"\nset 0:", sets(size, append(want.Sets, inst.Set{})...))
			}
			for _, n := range []int64{math.MinInt64, math.MaxInt64, api.MaxMag + 1, -api.MaxMag - 1, 1<<32 + int64(from), -1<<32 + int64(from), api.MaxN} {
				failsBehind(t, head+" ", text(n), api.ErrForm)
			}
		}
	}
	for _, n := range []string{"0", "-0", "-1", "1"} {
		failsBehind(t, "cover 0 set 1: ", n, api.ErrForm)
	}
	for _, x := range []struct{ head, elem string }{
		{"cover 5 set 1: 2 ", "2"}, {"cover 5 set 1: 2 ", "1"}, {"cover 5 set 1: 2 ", "0"}, {"cover 5 set 1: 0 1 4 ", "2"}, {"cover 5 set 1: 0 1 4 ", "4"},
		{"cover 5 set 1: 0 1 ", "0"}, {"cover 5 set 1: 0 1 ", "-1"}, {"cover 5 set 1: 4 ", "5"}, {"cover 5 set 1: 0 1 2 3 4 ", "5"},
		{"cover 5 set 1: 0 1 2 3 4 set 1: 3 ", "3"}, {"cover 5 set 1: set 1: set 1: 0 ", "0"}, {"cover 5 set 1: 0 ", "-0"},
	} {
		failsBehind(t, x.head, x.elem, api.ErrForm)
	}
	all, s := make([]int, api.MaxN), ""
	for n := range all {
		all[n], s = n, s+" "+strconv.Itoa(n)
	}
	parses(t, "cover 4096 set 1:"+s+" set 2: 4095 set 3:"+s, sets(api.MaxN, inst.Set{Cost: 1, Elems: all}, inst.Set{Cost: 2, Elems: all[api.MaxN-1:]}, inst.Set{Cost: 3, Elems: all}))
	failsBehind(t, "cover 4096 set 1:"+s+" ", "4096", api.ErrForm)
	failsBehind(t, "cover 4095 set 1:"+strings.TrimSuffix(s, "4095"), "4095", api.ErrForm)
}

// TestOwnPlaces: in each place of a square, of a Tsp only 0 may stand in a
// row's own one.
func TestOwnPlaces(t *testing.T) {
	for n := 1; n <= 4; n++ {
		for at := range n * n {
			own := at/n == at%n
			for _, x := range []int64{1, -1, 7, api.MaxMag, -api.MaxMag} {
				cost := zeros(n)
				cost[at/n][at%n] = x
				parses(t, square("assignment", cost), inst.Inst{Kind: inst.Assignment, Cost: cost})
				s := square("tsp", cost)
				if own {
					head := s[:strings.Index(s, " "+text(x))+1]
					failsBehind(t, head, text(x), api.ErrForm)
					line, col := end(head)
					fails(t, s, line, col, api.ErrForm)
				} else {
					parses(t, s, inst.Inst{Kind: inst.Tsp, Cost: cost})
				}
			}
		}
	}
	s := square("tsp", zeros(api.MaxSide))
	failsBehind(t, strings.TrimSuffix(s, "0"), "1", api.ErrForm)
	parses(t, "tsp 1 row -000", inst.Inst{Kind: inst.Tsp, Cost: zeros(1)})
}

// square is a text, a row a line. Its first number, how many rows it has, has
// a 0 ahead of it.
func square(kind string, cost [][]int64) string {
	s := kind + " 0" + strconv.Itoa(len(cost))
	for _, row := range cost {
		s += "\n row"
		for _, x := range row {
			s += " " + text(x)
		}
	}
	return s
}

// TestOrderOfFaults: of several the first in the text is told, and of several
// at one token the one that the chapter names first.
func TestOrderOfFaults(t *testing.T) {
	for _, x := range []struct {
		head, at string
		e        api.Errno
	}{
		{"knapsack ", "-1", api.ErrForm}, {"knapsack capacity ", "-1 item -1 -1", api.ErrLimit}, {"knapsack capacity 5 item ", "-1 x", api.ErrLimit},
		{"knapsack capacity 5 item ", "x -1", api.ErrForm}, {"knapsack capacity 5 item 5 ", "x -1", api.ErrForm}, {"knapsack capacity 5 item ", "2147483649 -1", api.ErrLimit},
		{"knapsack capacity 5 ", "-1", api.ErrForm}, {"knapsack capacity 5 item 1 1 ", "9223372036854775807", api.ErrForm}, {"", "9223372036854775807", api.ErrForm},
		{"assignment ", "65 row x", api.ErrLimit}, {"assignment ", "x 65", api.ErrForm}, {"assignment 2 row 1 ", "row 2147483649 1", api.ErrForm},
		{"assignment 2 row ", "2147483649 row", api.ErrLimit}, {"assignment 1 row 1 ", "2147483649", api.ErrForm}, {"assignment 1 ", "2147483649", api.ErrForm},
		{"tsp 1 row ", "2147483649", api.ErrLimit}, {"tsp 1 row ", "-2147483649", api.ErrLimit}, {"tsp 1 row ", "9223372036854775807", api.ErrLimit},
		{"tsp 1 row ", "2147483648", api.ErrForm}, {"tsp 1 row ", "-2147483648", api.ErrForm}, {"tsp 2 row 0 1 row 0 ", "2147483649", api.ErrLimit},
		{"tsp 2 row ", "1 2147483649", api.ErrForm}, {"tsp 2 row 0 ", "2147483649 row 0 1", api.ErrLimit}, {"tsp 2 row ", "1 row", api.ErrForm}, {"tsp 2 row 0 ", "row 1 1", api.ErrForm},
		{"tsp ", "0 row 1", api.ErrLimit}, {"cover ", "4097 set -1: -1", api.ErrLimit}, {"cover ", "-1 set 1: 0", api.ErrLimit}, {"cover 3 set ", "-1: 5", api.ErrLimit},
		{"cover 3 set ", "2147483649 1", api.ErrLimit}, {"cover 3 set ", ": -1", api.ErrForm}, {"cover 3 set 5: ", "9223372036854775807 set -1:", api.ErrForm},
		{"cover 3 set 5: 2 ", "1 set -1", api.ErrForm}, {"cover 3 set 5: 1 set ", "-1: 3", api.ErrLimit}, {"cover 3 ", "4097", api.ErrForm}, {"cover 3 set 1 ", "-1", api.ErrForm},
		{"cover 3 set 1: 0 1 ", ": 1", api.ErrForm}, {"cover 3 set 1: 0 ", "x 0", api.ErrForm}, {"", "x cover -1", api.ErrForm},
	} {
		failsBehind(t, x.head, x.at, x.e)
	}
}
