package lex

import (
	"math"
	"slices"
	"strings"
	"testing"

	"secateur/api"
)

// P8.1

// tok is a token whose number counts for nothing, if it is of another kind
// than Number.
func tok(k Kind, text string, n int64, line, col int) Token {
	return Token{Kind: k, Text: text, N: n, Pos: Pos{Line: line, Col: col}}
}

// reads tests that the tokens of s are those, with the End.
func reads(t *testing.T, s string, want ...Token) {
	t.Helper()
	l, p, e := Lex(s)
	if !slices.Equal(l, want) || p != (Pos{}) || e != api.OK {
		t.Errorf("P8.1: Lex(%.80q) is %v, %v, %d; want %v", s, l, p, e, want)
	}
}

// fails tests that s fails at that place, with that error, and tells nothing else.
func fails(t *testing.T, s string, line, col int, want api.Errno) {
	t.Helper()
	l, p, e := Lex(s)
	if len(l) != 0 || p != (Pos{Line: line, Col: col}) || e != want {
		t.Errorf("P8.1: Lex(%.80q) has %d tokens, %v, %d; want none, {%d %d}, %d", s, len(l), p, e, line, col, want)
	}
}

func TestLexOfNothing(t *testing.T) {
	reads(t, "", tok(End, "", 0, 1, 1))
	for s, want := range map[string]Pos{
		" ": {1, 2}, "\t": {1, 2}, "\r": {1, 2}, "\n": {2, 1}, "\r\n": {2, 1}, "\n\r": {2, 2},
		" \t\r\n \n\t\t": {3, 3}, "#": {1, 2}, "# a": {1, 4}, "#\n": {2, 1}, "##\n#": {2, 2},
	} {
		reads(t, s, tok(End, "", 0, want.Line, want.Col))
	}
}

// each are one of each kind, and a Number with '-'.
var each = []Token{
	{Kind: Word, Text: "set"}, {Kind: Number, Text: "7", N: 7}, {Kind: Number, Text: "-5", N: -5}, {Kind: Colon, Text: ":"},
}

func TestLexOfEachKind(t *testing.T) {
	for _, x := range each {
		x.Pos = Pos{1, 1}
		reads(t, x.Text, x, tok(End, "", 0, 1, 1+len(x.Text)))
	}
}

// TestLexSideBySide: what is one run becomes one token; all else is parted
// without a blank.
func TestLexSideBySide(t *testing.T) {
	for s, want := range map[string]Token{
		"setset": {Kind: Word, Text: "setset"}, "77": {Kind: Number, Text: "77", N: 77}, "-57": {Kind: Number, Text: "-57", N: -57},
	} {
		want.Pos = Pos{1, 1}
		reads(t, s, want, tok(End, "", 0, 1, 1+len(s)))
	}
	for _, s := range []string{"set7", "7set", "-5set"} {
		fails(t, s, 1, 1, api.ErrWord)
	}
	for _, pair := range [][2]int{{0, 2}, {0, 3}, {1, 2}, {1, 3}, {2, 2}, {2, 3}, {3, 0}, {3, 1}, {3, 2}, {3, 3}} {
		a, b := each[pair[0]], each[pair[1]]
		a.Pos, b.Pos = Pos{1, 1}, Pos{1, 1 + len(a.Text)}
		reads(t, a.Text+b.Text, a, b, tok(End, "", 0, 1, b.Pos.Col+len(b.Text)))
	}
}

// TestLexBehindBlanks: each kind behind each of the four blanks, at the
// beginning and behind each other kind.
func TestLexBehindBlanks(t *testing.T) {
	for _, blank := range []string{" ", "\t", "\r", "\n"} {
		for _, b := range each {
			b.Pos = Pos{1, 2}
			if blank == "\n" {
				b.Pos = Pos{2, 1}
			}
			reads(t, blank+b.Text, b, tok(End, "", 0, b.Pos.Line, b.Pos.Col+len(b.Text)))
			for _, a := range each {
				a.Pos = Pos{1, 1}
				b := b
				if blank != "\n" {
					b.Pos.Col += len(a.Text)
				}
				reads(t, a.Text+blank+b.Text, a, b, tok(End, "", 0, b.Pos.Line, b.Pos.Col+len(b.Text)))
			}
		}
	}
}

// TestLexOfRemarks: with code points of one to four bytes, at the end of a
// line and at the end of the text.
func TestLexOfRemarks(t *testing.T) {
	for _, remark := range []string{
		"#", "##", "# a 1 -5 : A - set7", "#\u00e9", "# \u20ac", "#\U0001f600", "#\x00\x7f\t\r", "#\u0080\u07ff\u0800\uffff\U00010000\U0010ffff",
		"#\ufffd", "#\ufeff", "#\ud7ff\ue000", "#\u0085\u2028", "# 99999999999999999999 1a " + strings.Repeat("b", 33),
	} {
		n := len([]rune(remark))
		reads(t, "a"+remark, tok(Word, "a", 0, 1, 1), tok(End, "", 0, 1, 2+n))
		reads(t, remark, tok(End, "", 0, 1, 1+n))
		reads(t, "7"+remark+"\n -5:", tok(Number, "7", 7, 1, 1), tok(Number, "-5", -5, 2, 2), tok(Colon, ":", 0, 2, 4), tok(End, "", 0, 2, 5))
		reads(t, remark+"\r\n"+remark+"\nb", tok(Word, "b", 0, 3, 1), tok(End, "", 0, 3, 2))
	}
	reads(t, "set#x\nset", tok(Word, "set", 0, 1, 1), tok(Word, "set", 0, 2, 1), tok(End, "", 0, 2, 4))
	reads(t, "# a\rb", tok(End, "", 0, 1, 6))
}

func TestLexOfWords(t *testing.T) {
	alphabet := "abcdefghijklmnopqrstuvwxyz"
	reads(t, alphabet, tok(Word, alphabet, 0, 1, 1), tok(End, "", 0, 1, 27))
	for _, c := range alphabet {
		most, more := strings.Repeat(string(c), api.MaxWord), strings.Repeat(string(c), api.MaxWord+1)
		reads(t, string(c), tok(Word, string(c), 0, 1, 1), tok(End, "", 0, 1, 2))
		reads(t, most, tok(Word, most, 0, 1, 1), tok(End, "", 0, 1, 33))
		reads(t, "\n:"+most+":", tok(Colon, ":", 0, 2, 1), tok(Word, most, 0, 2, 2), tok(Colon, ":", 0, 2, 34), tok(End, "", 0, 2, 35))
		fails(t, more, 1, 1, api.ErrWord)
		fails(t, "\n :"+more, 2, 3, api.ErrWord)
		fails(t, "-"+more, 1, 1, api.ErrByte)
	}
	fails(t, strings.Repeat("a", api.MaxText), 1, 1, api.ErrWord)
}

func TestLexOfMixedRuns(t *testing.T) {
	for _, run := range []string{
		"a1", "1a", "0a", "a0", "a1a", "1a1", "z9", "9z", "-1a", "-0z", "-1a1", strings.Repeat("a", 32) + "1", "1" + strings.Repeat("a", 32),
		"99999999999999999999a", "-99999999999999999999a", "0x10", "1e3",
	} {
		fails(t, run, 1, 1, api.ErrWord)
		fails(t, "a: "+run, 1, 4, api.ErrWord)
		fails(t, "a\n\n\t"+run+" ", 3, 2, api.ErrWord)
		fails(t, ":"+run+"-1", 1, 2, api.ErrWord)
	}
}

func TestLexOfNumbers(t *testing.T) {
	zeros := strings.Repeat("0", 99)
	for text, n := range map[string]int64{
		"0": 0, "-0": 0, "00": 0, "-00": 0, "007": 7, "-007": -7, "1234567890": 1234567890, "-1234567890": -1234567890,
		"9223372036854775807": math.MaxInt64, "-9223372036854775808": math.MinInt64, "9223372036854775806": math.MaxInt64 - 1,
		"-9223372036854775807":          math.MinInt64 + 1,
		zeros + "9223372036854775807":   math.MaxInt64,
		"-" + zeros + "922337203685477": -922337203685477, "-" + zeros + "9223372036854775808": math.MinInt64,
		zeros: 0, "-" + zeros: 0,
	} {
		reads(t, text, tok(Number, text, n, 1, 1), tok(End, "", 0, 1, 1+len(text)))
		reads(t, "a "+text+":", tok(Word, "a", 0, 1, 1), tok(Number, text, n, 1, 3), tok(Colon, ":", 0, 1, 3+len(text)), tok(End, "", 0, 1, 4+len(text)))
	}
	for _, text := range []string{
		"9223372036854775808", "-9223372036854775809", "9223372036854775810", "18446744073709551615", "18446744073709551616",
		"18446744073709551617", "-18446744073709551616", "10000000000000000000", "-10000000000000000000", "99999999999999999999",
		zeros + "9223372036854775808", "-" + zeros + "9223372036854775809", strings.Repeat("9", 4096), "-" + strings.Repeat("1", 4096),
	} {
		fails(t, text, 1, 1, api.ErrNum)
		fails(t, "x "+text, 1, 3, api.ErrNum)
		fails(t, "x\n-1"+":"+text+" 1a", 2, 4, api.ErrNum)
	}
}

func TestLexOfMinus(t *testing.T) {
	for _, behind := range []string{"", " ", " 4", "\n4", "-", "-4", "a", "a1", ":", "#", "\xff", "\u0664", "\u2212", "+4"} {
		fails(t, "-"+behind, 1, 1, api.ErrByte)
		fails(t, "1:-"+behind, 1, 3, api.ErrByte)
		fails(t, "a\n1 a-"+behind, 2, 4, api.ErrByte)
	}
	reads(t, "1-2", tok(Number, "1", 1, 1, 1), tok(Number, "-2", -2, 1, 2), tok(End, "", 0, 1, 4))
	reads(t, "a-2-3", tok(Word, "a", 0, 1, 1), tok(Number, "-2", -2, 1, 2), tok(Number, "-3", -3, 1, 4), tok(End, "", 0, 1, 6))
}

func TestLexPlaces(t *testing.T) {
	reads(t, "set -5: 1 # caf\u00e9",
		tok(Word, "set", 0, 1, 1), tok(Number, "-5", -5, 1, 5), tok(Colon, ":", 0, 1, 7), tok(Number, "1", 1, 1, 9), tok(End, "", 0, 1, 17))
	reads(t, "# \u20ac\n12\r\n\n\r\ta:\n",
		tok(Number, "12", 12, 2, 1), tok(Word, "a", 0, 4, 3), tok(Colon, ":", 0, 4, 4), tok(End, "", 0, 5, 1))
	fails(t, "#\u00e9\u20ac\U0001f600\xff", 1, 5, api.ErrByte)
	fails(t, "#\u00e9\u20ac\U0001f600\n\tA", 2, 2, api.ErrByte)
	fails(t, "#\U0001f600\n\n#\u00e9\n :1a", 4, 3, api.ErrWord)
	reads(t, strings.Repeat("\n", 5000)+strings.Repeat(" ", 7000)+"a", tok(Word, "a", 0, 5001, 7001), tok(End, "", 0, 5001, 7002))
}

// TestLexFirstPlace: of several faults the first one is told, whichever it is.
func TestLexFirstPlace(t *testing.T) {
	faults := []struct {
		text string
		at   int // where in the text it fails
		e    api.Errno
	}{
		{"1a", 1, api.ErrWord}, {strings.Repeat("a", 33), 1, api.ErrWord}, {"9223372036854775808", 1, api.ErrNum}, {"-9223372036854775809", 1, api.ErrNum},
		{"A", 1, api.ErrByte}, {"-", 1, api.ErrByte}, {"\xff", 1, api.ErrByte}, {"#\xff", 2, api.ErrByte}, {"\u00e9", 1, api.ErrByte},
	}
	for _, a := range faults {
		for _, b := range faults {
			fails(t, a.text+" "+b.text, 1, a.at, a.e)
			fails(t, "a\n :"+a.text+"\n"+b.text, 2, 2+a.at, a.e)
		}
	}
	fails(t, "1a\xff", 1, 1, api.ErrWord)
	fails(t, "ab\xff", 1, 3, api.ErrByte)
	fails(t, strings.Repeat("a", 32)+"\xff", 1, 33, api.ErrByte)
	fails(t, strings.Repeat("a", 33)+"\xff", 1, 1, api.ErrWord)
	fails(t, "9223372036854775807\xff", 1, 20, api.ErrByte)
	fails(t, "9223372036854775808\xff", 1, 1, api.ErrNum)
}

// filled is a text of n bytes of one piece again and again, and blanks.
func filled(piece string, n int) string {
	return strings.Repeat(piece, n/len(piece)) + strings.Repeat(" ", n%len(piece))
}

// TestLexOfLongTexts: ErrLong comes ahead of all else.
func TestLexOfLongTexts(t *testing.T) {
	for piece, n := range map[string]int{
		" ": 0, "\n": 0, "#": 0, ":": api.MaxText, "a ": api.MaxText / 2, "-1": api.MaxText / 2, "#\U0001f600\n:": api.MaxText / 7,
	} {
		l, p, e := Lex(filled(piece, api.MaxText))
		if len(l) != n+1 || l[n].Kind != End || p != (Pos{}) || e != api.OK {
			t.Errorf("P8.1: %q: %d tokens, %v, %d; want %d", piece, len(l), p, e, n+1)
		}
		fails(t, filled(piece, api.MaxText+1), 1, 1, api.ErrLong)
		fails(t, filled(piece, 2*api.MaxText), 1, 1, api.ErrLong)
		fails(t, "\n\n"+filled(piece, api.MaxText-1), 1, 1, api.ErrLong)
	}
	zeros := strings.Repeat("0", api.MaxText)
	reads(t, zeros, tok(Number, zeros, 0, 1, 1), tok(End, "", 0, 1, api.MaxText+1))
	reads(t, strings.Repeat(" ", api.MaxText-1)+"a", tok(Word, "a", 0, 1, api.MaxText), tok(End, "", 0, 1, api.MaxText+1))
	reads(t, "#"+strings.Repeat("\u00e9", (api.MaxText-2)/2)+"\n", tok(End, "", 0, 2, 1))
	fails(t, strings.Repeat("9", api.MaxText), 1, 1, api.ErrNum)
	fails(t, strings.Repeat(" ", api.MaxText-1)+"A", 1, api.MaxText, api.ErrByte)
	for _, fault := range []string{"\xff", "A", "1a", "9223372036854775808", "-"} {
		fails(t, "\n"+fault+strings.Repeat(" ", api.MaxText-len(fault)), 1, 1, api.ErrLong)
		fails(t, strings.Repeat(" ", api.MaxText+1-len(fault))+fault, 1, 1, api.ErrLong)
	}
	fails(t, "#"+strings.Repeat("\u20ac", api.MaxText/3)+"\n", 1, 1, api.ErrLong) // fewer code points than MaxText
}
