package parse

import (
	"fmt"
	"slices"
	"strconv"
	"strings"
	"testing"
	"unicode/utf8"

	"secateur/api"
	"secateur/inst"
	"secateur/lex"
)

// P10.1: what is parsed

// parses tests that the instance of s is that one, which may be, and that
// there is no place.
func parses(t *testing.T, s string, want inst.Inst) {
	t.Helper()
	got, at, e := Parse(s)
	if !inst.Equal(got, want) || at != (lex.Pos{}) || e != api.OK {
		t.Errorf("P10.1: Parse(%.200q) is %s, %v, %d; want %s", s, brief(got), at, e, brief(want))
	}
	if e := got.Check(); e != api.OK {
		t.Errorf("P10.1: what Parse(%.200q) is mayn't be: %d", s, e)
	}
}

// fails tests that s fails at that place, with that error, and tells nothing else.
func fails(t *testing.T, s string, line, col int, want api.Errno) {
	t.Helper()
	got, at, e := Parse(s)
	if at != (lex.Pos{Line: line, Col: col}) || e != want {
		t.Errorf("P10.1: Parse(%.200q) fails at %v with %d, want {%d %d}, %d", s, at, e, line, col, want)
	}
	isNothing(t, s, got)
}

// isNothing tests that no field of what comes beside an error has something.
func isNothing(t *testing.T, s string, i inst.Inst) {
	t.Helper()
	if i.Kind != 0 || i.Cap != 0 || i.Size != 0 || len(i.Items)+len(i.Cost)+len(i.Sets) > 0 {
		t.Errorf("rule 2: beside an error Parse(%.200q) is %s", s, brief(i))
	}
}

// brief tells an instance, but for the end of a great one.
func brief(i inst.Inst) string {
	return fmt.Sprintf("%.200s", fmt.Sprint(i))
}

// end is the place behind a text's last code point.
func end(s string) (line, col int) {
	last := s[strings.LastIndex(s, "\n")+1:]
	return 1 + strings.Count(s, "\n"), 1 + utf8.RuneCountInString(last)
}

// failsBehind tests that a text that begins with head fails at the token x
// behind it, with that error, in the same line and in a later one, and
// whatever comes behind it.
func failsBehind(t *testing.T, head, x string, want api.Errno) {
	t.Helper()
	line, col := end(head)
	for _, tail := range []string{"", " ", "\n", " # x", " x", " :", " 7", " -1", " set row\n1"} {
		fails(t, head+x+tail, line, col, want)
		fails(t, head+" # caf\u00e9\n\n\t"+x+tail, line+2, 2, want)
	}
}

func items(l ...inst.Item) inst.Inst {
	return inst.Inst{Kind: inst.Knapsack, Cap: 9, Items: l}
}

func TestParseKnapsacks(t *testing.T) {
	parses(t, "knapsack capacity 9", items())
	parses(t, "knapsack capacity 0", inst.Inst{})
	parses(t, "knapsack capacity 9 item 6 3", items(inst.Item{Value: 6, Weight: 3}))
	parses(t, "knapsack capacity 9 item 6 3 item 5 4", items(inst.Item{Value: 6, Weight: 3}, inst.Item{Value: 5, Weight: 4}))
	parses(t, "knapsack capacity 9 item 5 4 item 6 3 item 5 4 item 0 1 item 1 0",
		items(inst.Item{Value: 5, Weight: 4}, inst.Item{Value: 6, Weight: 3}, inst.Item{Value: 5, Weight: 4}, inst.Item{Weight: 1}, inst.Item{Value: 1}))
}

func TestParseSquares(t *testing.T) {
	for k, s := range map[inst.Kind]string{inst.Assignment: "assignment ", inst.Tsp: "tsp "} {
		parses(t, s+"1 row 0", inst.Inst{Kind: k, Cost: [][]int64{{0}}})
		parses(t, s+"2 row 0 1 row 2 0", inst.Inst{Kind: k, Cost: [][]int64{{0, 1}, {2, 0}}})
		parses(t, s+"3 row 0 1 -2 row 3 0 4 row 5 -6 0", inst.Inst{Kind: k, Cost: [][]int64{{0, 1, -2}, {3, 0, 4}, {5, -6, 0}}})
	}
	parses(t, "assignment 1 row 7", inst.Inst{Kind: inst.Assignment, Cost: [][]int64{{7}}})
	parses(t, "assignment 2 row 4 1 row 2 -3", inst.Inst{Kind: inst.Assignment, Cost: [][]int64{{4, 1}, {2, -3}}})
}

func sets(size int, l ...inst.Set) inst.Inst {
	return inst.Inst{Kind: inst.Cover, Size: size, Sets: l}
}

func TestParseCovers(t *testing.T) {
	parses(t, "cover 0", sets(0))
	parses(t, "cover 3", sets(3))
	parses(t, "cover 0 set 0:", sets(0, inst.Set{}))
	parses(t, "cover 0 set 5: set 5 :", sets(0, inst.Set{Cost: 5}, inst.Set{Cost: 5}))
	parses(t, "cover 3 set 5: 0", sets(3, inst.Set{Cost: 5, Elems: []int{0}}))
	parses(t, "cover 3 set 5: 0 2", sets(3, inst.Set{Cost: 5, Elems: []int{0, 2}}))
	parses(t, "cover 3 set 5: 0 1 2 set 0:1 2 set 4: set 2147483648: 2",
		sets(3, inst.Set{Cost: 5, Elems: []int{0, 1, 2}}, inst.Set{Elems: []int{1, 2}}, inst.Set{Cost: 4}, inst.Set{Cost: 2147483648, Elems: []int{2}}))
}

func TestExamples(t *testing.T) {
	parses(t, "cover 3 set 5: 0 2", sets(3, inst.Set{Cost: 5, Elems: []int{0, 2}}))
	fails(t, "cover 3 set 5: 2 2", 1, 18, api.ErrForm)
}

// TestParseWhateverParts: how tokens are parted, and how their numbers are
// written, makes no difference.
func TestParseWhateverParts(t *testing.T) {
	parses(t, "\r\n# a\n\tknapsack# b\ncapacity\t009 # \u20ac\r\n\n item -0 0003#", items(inst.Item{Weight: 3}))
	parses(t, "assignment\r0002\n\nrow 04-00\nrow -07-2#", inst.Inst{Kind: inst.Assignment, Cost: [][]int64{{4, 0}, {-7, -2}}})
	parses(t, "cover 3\nset 5:-0 02\nset\n5\n:\n0#1\n1\n", sets(3, inst.Set{Cost: 5, Elems: []int{0, 2}}, inst.Set{Cost: 5, Elems: []int{0, 1}}))
	parses(t, "tsp\n2\nrow\n0\n2\nrow 3 -0", inst.Inst{Kind: inst.Tsp, Cost: [][]int64{{0, 2}, {3, 0}}})
	for _, kind := range []string{"knapsack capacity 1", "assignment 1 row 0", "tsp 1 row 0", "cover 1"} {
		want, _, _ := Parse(kind)
		parses(t, strings.Repeat(" ", api.MaxText-len(kind))+kind, want)
	}
}

// P10.1: layer 8's place and error

// TestParseWhatIsNoTokens: layer 8's are told, also of what stands behind a
// place at which the text is no instance, or is complete.
func TestParseWhatIsNoTokens(t *testing.T) {
	for _, x := range []struct {
		s string
		e api.Errno
	}{
		{"?", api.ErrByte}, {"A", api.ErrByte}, {"- 1", api.ErrByte}, {"\xff", api.ErrByte}, {"\u00e9", api.ErrByte}, {"1a", api.ErrWord}, {"-1a", api.ErrWord},
		{"item1", api.ErrWord}, {strings.Repeat("a", api.MaxWord+1), api.ErrWord}, {"9223372036854775808", api.ErrNum}, {"-9223372036854775809", api.ErrNum},
	} {
		for _, head := range []string{
			"", "knapsack ", "knapsack capacity ", "knapsack capacity 5 ", "knapsack capacity 5 item ", "knapsack capacity 5 item 6 ", "knapsack capacity 5 item 6 3 ",
			"assignment ", "assignment 1 ", "assignment 1 row ", "assignment 1 row 0 ", "tsp 2 row 0 1 row 2 ", "tsp 2 row 0 1 row 2 0 ",
			"cover ", "cover 3 ", "cover 3 set ", "cover 3 set 5 ", "cover 3 set 5 : ", "cover 3 set 5 : 0 ",
			"x ", ": ", "5 ", "cover cover ", "knapsack capacity -1 ", "assignment 65 ", "tsp 1 row 1 ", "cover 3 set 1: 3 ", "cover 3 set 1: 1 1 ", "tsp 1 row 0 row ",
		} {
			fails(t, head+x.s, 1, 1+len(head), x.e)
			fails(t, head+"\n # \u20ac\n  "+x.s+" x", 3, 3, x.e)
			fails(t, head+x.s+" ? \xff", 1, 1+len(head), x.e)
		}
		fails(t, x.s+" x", 1, 1, x.e)
	}
	fails(t, "knapsack x # \xff", 1, 14, api.ErrByte)
	fails(t, "cover 3\n#\xff", 2, 2, api.ErrByte)
	for _, head := range []string{"", "x", "cover 3", "knapsack capacity 1", "A"} {
		fails(t, head+strings.Repeat("\n", api.MaxText+1-len(head)), 1, 1, api.ErrLong)
		fails(t, head+strings.Repeat("?", api.MaxText+1-len(head)), 1, 1, api.ErrLong)
	}
	fails(t, "x"+strings.Repeat("\n", api.MaxText-1), 1, 1, api.ErrForm)
}

// P10.1: places of the grammar

// heads are texts, each of which ends at another place of the grammar, with
// what may stand there: a Number as 0, and the End as the empty text.
var heads = []struct {
	head, may string
}{
	{"", "knapsack assignment tsp cover"},
	{"knapsack", "capacity"},
	{"knapsack capacity", "0"},
	{"knapsack capacity 5", "item |"},
	{"knapsack capacity 5 item", "0"},
	{"knapsack capacity 5 item 6", "0"},
	{"knapsack capacity 5 item 6 3", "item |"},
	{"knapsack capacity 5 item 6 3 item", "0"},
	{"knapsack capacity 5 item 6 3 item 5", "0"},
	{"knapsack capacity 5 item 6 3 item 5 4", "item |"},
	{"assignment", "0"},
	{"assignment 1", "row"},
	{"assignment 1 row", "0"},
	{"assignment 1 row 4", "|"},
	{"assignment 2", "row"},
	{"assignment 2 row", "0"},
	{"assignment 2 row 4", "0"},
	{"assignment 2 row 4 1", "row"},
	{"assignment 2 row 4 1 row", "0"},
	{"assignment 2 row 4 1 row 2", "0"},
	{"assignment 2 row 4 1 row 2 0", "|"},
	{"tsp", "0"},
	{"tsp 1", "row"},
	{"tsp 1 row", "0"},
	{"tsp 1 row 0", "|"},
	{"tsp 2", "row"},
	{"tsp 2 row", "0"},
	{"tsp 2 row 0", "0"},
	{"tsp 2 row 0 1", "row"},
	{"tsp 2 row 0 1 row", "0"},
	{"tsp 2 row 0 1 row 2", "0"},
	{"tsp 2 row 0 1 row 2 0", "|"},
	{"cover", "0"},
	{"cover 3", "set |"},
	{"cover 3 set", "0"},
	{"cover 3 set 5", ":"},
	{"cover 3 set 5 :", "0 set |"},
	{"cover 3 set 5 : 0", "0 set |"},
	{"cover 3 set 5 : 0 2", "0 set |"},
	{"cover 3 set 5 : set", "0"},
	{"cover 3 set 5 : 0 set 7", ":"},
	{"cover 3 set 5 : 0 set 7 :", "0 set |"},
	{"cover 3 set 5 : 0 set 7 : 1 2", "0 set |"},
}

// pieces are all words of the grammar, some like them, and one of each other
// kind but the End.
var pieces = []string{
	"knapsack", "assignment", "tsp", "cover", "capacity", "item", "row", "set", "x", "items", "knapsac", "rows", "end", "number", "0", ":",
}

func TestParseWhatMayNotStandThere(t *testing.T) {
	for _, x := range heads {
		may := strings.Fields(x.may)
		for _, piece := range pieces {
			if !slices.Contains(may, piece) {
				failsBehind(t, x.head+" ", piece, api.ErrForm)
			}
		}
		if !slices.Contains(may, "0") {
			for _, number := range []string{"1", "-1", "2147483649", "9223372036854775807", "-9223372036854775808"} {
				failsBehind(t, x.head+" ", number, api.ErrForm)
			}
		}
		if slices.Contains(may, "|") {
			got, _, _ := Parse(x.head)
			parses(t, x.head, got)
			continue
		}
		for _, s := range []string{x.head, x.head + "  ", x.head + "# caf\u00e9", x.head + "\n", "\r\n" + strings.ReplaceAll(x.head, " ", "\n") + "\n# \u20ac\n\t#"} {
			line, col := end(s)
			fails(t, s, line, col, api.ErrForm)
		}
	}
}

// TestParseWhatMayStandThere: the text doesn't fail there by the grammar, with
// each of what may.
func TestParseWhatMayStandThere(t *testing.T) {
	for _, x := range heads {
		for _, piece := range strings.Fields(x.may) {
			got, at, e := Parse(x.head + " " + strings.Trim(piece, "|") + "\n")
			switch {
			case e == api.OK && got.Check() == api.OK, at.Line == 2 && e == api.ErrForm:
			case piece == "0" && (x.head == "assignment" || x.head == "tsp") && e == api.ErrLimit:
			case piece == "0" && strings.Contains(x.head, ": 0") && e == api.ErrForm:
			default:
				t.Errorf("P10.1: Parse(%q), with %s behind it, is %v, %v, %d", x.head, piece, got, at, e)
			}
		}
	}
}

// TestParseRowsTooFewOrMany: of each number of rows, and of numbers in each row.
func TestParseRowsTooFewOrMany(t *testing.T) {
	for _, kind := range []string{"assignment ", "tsp "} {
		for _, n := range []int{1, 2, 3, api.MaxSide} {
			row := "\nrow" + strings.Repeat(" 0", n)
			begin := kind + strconv.Itoa(n)
			all := begin + strings.Repeat(row, n)
			got, _, _ := Parse(all)
			parses(t, all, got)
			few := begin + strings.Repeat(row, n-1)
			line, col := end(few)
			fails(t, few, line, col, api.ErrForm)
			fails(t, all+row, n+2, 1, api.ErrForm)
			for at := range n {
				whole := begin + strings.Repeat(row, at+1)
				line, col := end(whole)
				behind := strings.Repeat(row, n-1-at)
				fails(t, whole+" 0"+behind, line, col+1, api.ErrForm)
				short := strings.TrimSuffix(whole, " 0")
				if at == n-1 {
					fails(t, short, line, col-2, api.ErrForm)
				} else {
					fails(t, short+behind, line+1, 1, api.ErrForm)
				}
			}
		}
	}
}
