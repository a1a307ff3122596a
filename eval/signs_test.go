package eval

import (
	"fmt"
	"math"
	"slices"
	"strings"
	"testing"

	"secateur/api"
	"secateur/sample"
)

// P12.3: Text, Parse

// signed tests an answer's signs, and that they are parsed to it again, if none
// of its numbers is below 0; else that they are refused.
func signed(t *testing.T, want string, x ...int) {
	t.Helper()
	s := Text(x)
	if s != want {
		t.Errorf("P12.3: Text(%.200v) is %.200q, want %.200q", x, s, want)
	}
	if len(x) > 0 && slices.Min(x) < 0 {
		fails(t, s)
		return
	}
	if again, e := Parse(s); !slices.Equal(again, x) || e != api.OK {
		t.Errorf("P12.3: Parse(%.200q) is %.200v, %d; want %.200v", s, again, e, x)
	}
}

// fails tests that a text is no answer's signs.
func fails(t *testing.T, s string) {
	t.Helper()
	if x, e := Parse(s); len(x) > 0 || e != api.ErrForm {
		t.Errorf("P12.3: Parse(%.200q) is %.200v, %d; want no list, %d", s, x, e, api.ErrForm)
	}
}

func TestText(t *testing.T) {
	signed(t, "-")
	signed(t, "-", []int{}...)
	signed(t, "0", 0)
	signed(t, "7", 7)
	signed(t, "3 0 12", 3, 0, 12)
	signed(t, "0 0", 0, 0)
	signed(t, "10 9 100 99 1000", 10, 9, 100, 99, 1000)
	signed(t, "5 5 4 5", 5, 5, 4, 5)
	signed(t, "9223372036854775807", math.MaxInt)
	signed(t, "9223372036854775807 0 9223372036854775806", math.MaxInt, 0, math.MaxInt-1)
}

// TestTextBelowNought: a number below 0 has - ahead; it is parsed by none.
func TestTextBelowNought(t *testing.T) {
	signed(t, "-1", -1)
	signed(t, "3 -1", 3, -1)
	signed(t, "-10 0 -20", -10, 0, -20)
	signed(t, "-9223372036854775808", math.MinInt)
	signed(t, "-9223372036854775807 -9223372036854775808 9223372036854775807", math.MinInt+1, math.MinInt, math.MaxInt)
}

// TestParseAloneAndAmongOthers: whatever is no number's sign alone, is none
// ahead of others, behind them, and between.
func TestParseAloneAndAmongOthers(t *testing.T) {
	for _, sign := range []string{
		"", " ", "  ", "00", "01", "007", "-0", "-1", "+0", "+1", "-", "--", "--1", "1-", "1+", "1.", "1.0", ".", "1,", ",", "1_0", "1e2", "0x1", "x", "a1", "1a", "\x00", "1\x00",
		"\t", "1\t", "\n", "1\n", "1\r", "\v1", "1\f", "\u00a01", "\u00b2", "\u0661", "\uff11", "\xff", "1\xff", "\ufeff1", "9223372036854775808", "9223372036854775809", "18446744073709551616",
		"18446744073709551617", "100000000000000000000", "-9223372036854775808", "-9223372036854775809", "01 ", "1  2", "1\t2", "1,2", "1-2", strings.Repeat("9", 1000), strings.Repeat("0", 1000),
	} {
		if sign != "-" {
			fails(t, sign)
		}
		for _, s := range []string{sign + " 5", "5 " + sign, "5 " + sign + " 6", sign + " " + sign, "- " + sign, sign + " -"} {
			fails(t, s)
		}
	}
}

// TestParseBlanks: just one stands between each two numbers, and none elsewhere.
func TestParseBlanks(t *testing.T) {
	for _, s := range []string{" 1", "1 ", " 1 ", "1 2 ", " 1 2", "1  2", "1   2", "1 2  3", "- ", " -", "- -", "--", "- 1", "1 -"} {
		fails(t, s)
	}
	signed(t, "1 2", 1, 2)
	signed(t, "1 2 3", 1, 2, 3)
}

// TestParseAnyCharacter: each byte among digits, and alone.
func TestParseAnyCharacter(t *testing.T) {
	for c := range 256 {
		b := string([]byte{byte(c)})
		switch {
		case '0' <= c && c <= '9':
			n := c - '0'
			signed(t, b, n)
			signed(t, "1"+b+"2", 100+10*n+2)
			signed(t, "1"+b, 10+n)
			if n > 0 {
				signed(t, b+"1", 10*n+1)
			}
			continue
		case b == " ":
			signed(t, "1 2", 1, 2)
		default:
			fails(t, "1"+b+"2")
		}
		if b != "-" {
			fails(t, b)
		}
		fails(t, b+"1")
		fails(t, "1"+b)
		fails(t, "5 "+b+"1")
		fails(t, "5 1"+b)
	}
}

// TestParseShort: all texts of up to five bytes of some that may be signs, held
// against the texts of all lists.
func TestParseShort(t *testing.T) {
	const bytes = "01 -9+"
	texts := map[string][]int{"-": nil}
	numbers := []int{0, 1, 9}
	for n := 1; n < 100000; n++ {
		if s := fmt.Sprint(n); strings.Trim(s, "019") == "" && n > 9 {
			numbers = append(numbers, n)
		}
	}
	var add func(s string, x []int)
	add = func(s string, x []int) {
		for _, n := range numbers {
			if next := strings.TrimPrefix(s+" "+fmt.Sprint(n), " "); len(next) <= 5 {
				texts[next] = append(slices.Clone(x), n)
				add(next, texts[next])
			}
		}
	}
	add("", nil)
	var look func(s string)
	met := 0
	look = func(s string) {
		if want, ok := texts[s]; ok {
			met++
			signed(t, s, want...)
		} else {
			fails(t, s)
		}
		for k := 0; k < len(bytes) && len(s) < 5; k++ {
			look(s + bytes[k:k+1])
		}
	}
	look("")
	if met != len(texts) || met < 200 {
		t.Errorf("%d of %d texts were met", met, len(texts))
	}
}

// TestParseOfText: lists of numbers from 0 on, of any count of digits and of
// any length, are told again.
func TestParseOfText(t *testing.T) {
	d := sample.Dice(1)
	for n := range 3000 {
		x := make([]int, d.Roll(12))
		if n%1000 == 0 {
			x = make([]int, 100000)
		}
		var signs []string
		for k := range x {
			x[k] = d.Roll(1<<31-1)<<31 | d.Roll(1<<31-1)
			x[k] >>= d.Roll(63)
			signs = append(signs, fmt.Sprint(x[k]))
		}
		if len(x) > 0 {
			signed(t, strings.Join(signs, " "), x...)
		}
	}
}
