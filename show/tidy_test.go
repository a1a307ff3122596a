package show

import (
	"strings"
	"testing"

	"secateur/api"
	"secateur/inst"
	"secateur/parse"
)

// P11.1: Tidy

// tidies tests that Tidy of a text is those lines, each with its line feed, and
// Print of the text's instance.
func tidies(t *testing.T, s string, lines ...string) {
	t.Helper()
	want := strings.Join(lines, "\n") + "\n"
	if got, e := Tidy(s); got != want || e != api.OK {
		t.Errorf("P11.1: Tidy(%.300q) is %.300q, %d; want %.300q", s, got, e, want)
	}
	i, _, _ := parse.Parse(s)
	prints(t, i, lines...)
}

// fails tests that Tidy of a text is no text, but an error.
func fails(t *testing.T, s string, want api.Errno) {
	t.Helper()
	if got, e := Tidy(s); got != "" || e != want {
		t.Errorf("P11.1: Tidy(%.300q) is %.300q, %d; want no text, %d", s, got, e, want)
	}
}

func TestExamples(t *testing.T) {
	tidies(t, "cover 3 set 5:0 2", "cover 3", "set 5: 0 2")
	tidies(t, "knapsack capacity 5 item 6 3 item 5 4", "knapsack", "capacity 5", "item 6 3", "item 5 4")
}

// TestTidyWhateverParts: how tokens are parted, and how their numbers are
// written, is to be seen no more.
func TestTidyWhateverParts(t *testing.T) {
	tidies(t, "knapsack capacity 0", "knapsack", "capacity 0")
	tidies(t, "knapsack\n\ncapacity\t007\r\nitem -0 -000#item 1 1\nitem 010 2147483648 \n\n", "knapsack", "capacity 7", "item 0 0", "item 10 2147483648")
	tidies(t, " # caf\u00e9\n\tknapsack capacity 00000000000000000000005", "knapsack", "capacity 5")
	tidies(t, "assignment 1 row -0", "assignment 1", "row 0")
	tidies(t, "assignment 01 row -07", "assignment 1", "row -7")
	tidies(t, "assignment\n2\nrow 04-00\nrow -010\n# \u20ac\n12", "assignment 2", "row 4 0", "row -10 12")
	tidies(t, "tsp 2 row-0-2147483648#\nrow 0000-0", "tsp 2", "row 0 -2147483648", "row 0 0")
	tidies(t, "tsp 1 row 0\r\n\r\n", "tsp 1", "row 0")
	tidies(t, "cover-0", "cover 0")
	tidies(t, "cover 003\tset 05:00 02\rset-0:#\nset\n5\n:\n1", "cover 3", "set 5: 0 2", "set 0:", "set 5: 1")
	tidies(t, "cover 3 set 5 : 0 1 2 # 3\nset 6     :\n", "cover 3", "set 5: 0 1 2", "set 6:")
	tidies(t, "cover 12 set 10 :09 010 11", "cover 12", "set 10: 9 10 11")
}

// TestTidyOfWhatIsNoInstance: each error of layers 8 and 10.
func TestTidyOfWhatIsNoInstance(t *testing.T) {
	for s, want := range map[string]api.Errno{
		"?": api.ErrByte, "Cover 3": api.ErrByte, "cover 3 #\xff": api.ErrByte, "cover 3 \u00e9": api.ErrByte, "cover - 3": api.ErrByte, "tsp 1 row 0 \x00": api.ErrByte,
		"cover 3 set 5: 0x": api.ErrWord, "cover3": api.ErrWord, "knapsack " + strings.Repeat("a", api.MaxWord+1): api.ErrWord, "assignment 1 row -1a": api.ErrWord,
		"knapsack capacity 9223372036854775808": api.ErrNum, "assignment 1 row -9223372036854775809": api.ErrNum, "cover 3 99999999999999999999": api.ErrNum,
		"": api.ErrForm, " \n# x": api.ErrForm, "x": api.ErrForm, "5": api.ErrForm, ":": api.ErrForm, "knapsack": api.ErrForm, "knapsack 5": api.ErrForm, "knapsack capacity": api.ErrForm,
		"knapsack capacity 5 item 6": api.ErrForm, "knapsack capacity 5 set 6: 0": api.ErrForm, "assignment 2 row 4 1 row 2": api.ErrForm, "assignment 1 row 1 row 2": api.ErrForm,
		"tsp 1 row 1": api.ErrForm, "tsp 2 row 0 1 row 2 3": api.ErrForm, "cover": api.ErrForm, "cover 3 set 5 0": api.ErrForm, "cover 3 set 5: 2 2": api.ErrForm, "cover 3 set 5: 3": api.ErrForm,
		"cover 3 set 5: -1": api.ErrForm, "cover 3 set 5: 1 0": api.ErrForm, "cover 3 cover 3": api.ErrForm,
		"knapsack capacity -1": api.ErrLimit, "knapsack capacity 5 item 2147483649 1": api.ErrLimit, "knapsack capacity 5 item 1 -1": api.ErrLimit, "assignment 0": api.ErrLimit, "tsp 65": api.ErrLimit,
		"assignment 1 row -2147483649": api.ErrLimit, "tsp 1 row 2147483649": api.ErrLimit, "cover 4097": api.ErrLimit, "cover -1": api.ErrLimit, "cover 3 set -1:": api.ErrLimit,
		"knapsack capacity 5" + strings.Repeat(" item 1 1", api.MaxN+1): api.ErrLimit, "cover 0" + strings.Repeat(" set 1:", api.MaxN+1): api.ErrLimit,
	} {
		fails(t, s, want)
	}
	for _, s := range []string{"cover 3", "knapsack capacity 5 item 6 3", "tsp 1 row 0", "x", "?", "\xff", ""} {
		fails(t, s+strings.Repeat(" ", api.MaxText+1-len(s)), api.ErrLong)
	}
}

// TestTidyOfLength: a text may be as long as it may be while its lines are
// short, and its lines may be too long while it is not.
func TestTidyOfLength(t *testing.T) {
	for s, l := range map[string][]string{
		"knapsack capacity 5": {"knapsack", "capacity 5"}, "assignment 1 row 7": {"assignment 1", "row 7"}, "tsp 1 row 0": {"tsp 1", "row 0"}, "cover 3 set 5:0": {"cover 3", "set 5: 0"},
	} {
		blanks := strings.Repeat(" ", api.MaxText-len(s))
		tidies(t, s+blanks, l...)
		tidies(t, blanks+s, l...)
		fails(t, blanks+s+"\n", api.ErrLong)
	}
	for _, more := range []int{-50, -1, 0, 1, 2, 50} {
		n := api.MaxText + more
		i := sized(n)
		tight := strings.TrimSuffix(strings.ReplaceAll(model(i), ": ", ":"), "\n")
		if len(tight) >= n-50 || len(tight) < n-60 {
			t.Fatalf("%d bytes became %d", n, len(tight))
		}
		got, e := Tidy(tight)
		want, wantErr := "", api.ErrLong
		if n <= api.MaxText {
			want, wantErr = model(i), api.OK
		}
		if got != want || e != wantErr {
			t.Errorf("P11.1: Tidy of %d bytes for %d is of %d, %d; want %d, %d", len(tight), n, len(got), e, len(want), wantErr)
		}
	}
	whole := model(sized(api.MaxText + 1))
	fails(t, whole, api.ErrLong)
	fails(t, strings.TrimSuffix(whole, "\n"), api.ErrLong)
	whole = model(sized(api.MaxText))
	l := linesOf(whole)
	tidies(t, whole, l...)
	tidies(t, strings.TrimSuffix(whole, "\n"), l...)
	fails(t, whole+"\n", api.ErrLong)
}

// TestTidyOfOtherTexts: unlike texts of one instance are told as one.
func TestTidyOfOtherTexts(t *testing.T) {
	for _, k := range []string{"knapsack capacity 4 item 3 2 item 1 0", "assignment 2 row 1 2 row -3 4", "tsp 2 row 0 1 row -2 0", "cover 5 set 7 : 0 1 4 set 0 : set 2 : 3"} {
		i, _, _ := parse.Parse(k)
		tokens := strings.Fields(k)
		for _, blank := range []string{" ", "\n", "\t", "\r\n", "  # \u20ac set\n"} {
			s := blank + strings.Join(tokens, blank) + blank
			if other, _, e := parse.Parse(s); e != api.OK || !inst.Equal(i, other) {
				t.Fatalf("%q is no text of the same instance", s)
			}
			tidies(t, s, linesOf(model(i))...)
		}
	}
}
