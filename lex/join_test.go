package lex

import (
	"slices"
	"strings"
	"testing"

	"secateur/api"
)

// P8.2

// joinsAgain tests that the tokens of what is joined are these again, but for
// their places.
func joinsAgain(t *testing.T, l []Token) {
	t.Helper()
	s := Join(l)
	again, p, e := Lex(s)
	if !slices.EqualFunc(l, again, sameButPlace) || p != (Pos{}) || e != api.OK {
		t.Errorf("P8.2: of %q, which is %v joined, the tokens are %v, %v, %d", s, l, again, p, e)
	}
}

func sameButPlace(a, b Token) bool {
	b.Pos = a.Pos
	return a == b
}

// texts are tokens of those texts, of no kind that End is.
func texts(l ...string) []Token {
	var tokens []Token
	for i, x := range l {
		tokens = append(tokens, Token{Kind: Kind(i) % End, Text: x})
	}
	return tokens
}

func TestJoinTable(t *testing.T) {
	for _, x := range []struct {
		l    []Token
		want string
	}{
		{nil, ""}, {[]Token{}, ""}, {texts("a"), "a"}, {texts("a", "1"), "a 1"}, {texts("set", "-5", ":", "1"), "set -5 : 1"},
		{texts(":", ":", ":"), ": : :"}, {texts("a b", " ", "#\n"), "a b   #\n"}, {texts("\xff", "caf\u00e9"), "\xff caf\u00e9"},
		{texts(""), ""}, {texts("", ""), " "}, {texts("", "a"), " a"}, {texts("a", ""), "a "}, {texts("a", "", "b"), "a  b"},
	} {
		if got := Join(x.l); got != x.want {
			t.Errorf("P8.2: Join(%v) is %q, want %q", x.l, got, x.want)
		}
	}
}

// TestJoinLeavesOutEnds: wherever they are, whatever their Texts, and no blank
// is left of them.
func TestJoinLeavesOutEnds(t *testing.T) {
	for _, end := range []Token{{Kind: End}, {Kind: End, Text: "x", N: 3, Pos: Pos{1, 2}}, {Kind: End, Text: " "}} {
		for n := range 4 {
			l := texts("a", "1", ":")[:n]
			want := Join(l)
			for at := range n + 1 {
				for many := range 3 {
					if got := Join(slices.Insert(slices.Clone(l), at, slices.Repeat([]Token{end}, many)...)); got != want {
						t.Errorf("P8.2: with %d Ends at %d: %q, want %q", many, at, got, want)
					}
				}
			}
		}
	}
}

// TestJoinHangsOnTexts: neither on numbers, nor on places, nor on the kind,
// but for End, also where the kind is none.
func TestJoinHangsOnTexts(t *testing.T) {
	for _, k := range []Kind{-1 << 63, -1, Word, Number, Colon, Kinds, Kinds + 1, 1<<63 - 1} {
		l := []Token{{k, "a", -7, Pos{9, -9}}, {Kind: k, Text: "-2", N: 5}, {k, ":", 1, Pos{1, 1}}}
		if got := Join(l); got != "a -2 :" {
			t.Errorf("P8.2: of the kind %d: %q", k, got)
		}
	}
}

func TestJoinAgain(t *testing.T) {
	for s, want := range map[string]string{
		"": "", " # x": "", "set -5: 1 # caf\u00e9": "set -5 : 1", "a\n#\u20ac\u20ac\n b": "a b", "1:2": "1 : 2", "1-2": "1 -2", "a-2-0": "a -2 -0",
		"::": ": :", "007 -007\r\n0": "007 -007 0", ":a:1:-1:": ": a : 1 : -1 :",
		"\tknapsack capacity 5#\n item 6 3\n": "knapsack capacity 5 item 6 3",
	} {
		l, _, e := Lex(s)
		if got := Join(l); got != want || e != api.OK {
			t.Errorf("P8.2: %q joined is %q, want %q", s, got, want)
		}
		joinsAgain(t, l)
	}
}

// TestJoinLong: as long a text as may be read, of as many tokens as it may have then.
func TestJoinLong(t *testing.T) {
	l, _, _ := Lex(strings.Repeat(":", api.MaxText/2))
	joinsAgain(t, l)
	l, _, _ = Lex(strings.Repeat(":", api.MaxText))
	if got := Join(l); len(got) != 2*api.MaxText-1 || strings.Trim(got, ": ") != "" || strings.Contains(got, "::") {
		t.Errorf("P8.2: %d colons joined have %d bytes", api.MaxText, len(got))
	}
}
