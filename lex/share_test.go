package lex

import (
	"slices"
	"strings"
	"testing"
	"unsafe"

	"secateur/api"
)

// Rules 2 to 4 and 7, and P2

// TestLexAnswersApart: what is written to an answer, or behind it, no other
// one sees, and the next call tells the same.
func TestLexAnswersApart(t *testing.T) {
	s := "set -5: 1 # x\n a"
	first, _, _ := Lex(s)
	want := slices.Clone(first)
	second, _, _ := Lex(s)
	for i, x := range first[:cap(first)] {
		if i >= len(first) && x != (Token{}) {
			t.Errorf("behind the answer lies %v", x)
		}
		first[:cap(first)][i] = Token{Kinds, "?", -1, Pos{-1, -1}}
	}
	third, p, e := Lex(s)
	if !slices.Equal(second, want) || !slices.Equal(third, want) || p != (Pos{}) || e != api.OK {
		t.Errorf("an answer was written: others are %v, %v; want %v", second, third, want)
	}
}

// TestLexAfterFailing: what a call failed at, the next one doesn't know.
func TestLexAfterFailing(t *testing.T) {
	for _, bad := range []string{"a 1a", "\n\xff", "9223372036854775808", strings.Repeat("\n", api.MaxText+1)} {
		Lex(bad)
		reads(t, ":", tok(Colon, ":", 0, 1, 1), tok(End, "", 0, 1, 2))
		_, p, e := Lex(bad)
		_, again, eAgain := Lex(bad)
		if p != again || e != eAgain {
			t.Errorf("the same text failed at %v and %v, with %d and %d", p, again, e, eAgain)
		}
	}
}

// within: does a text's memory lie in another one's?
func within(part, s string) bool {
	a, b := uintptr(unsafe.Pointer(unsafe.StringData(part))), uintptr(unsafe.Pointer(unsafe.StringData(s)))
	return part != "" && s != "" && b <= a && a < b+uintptr(len(s))
}

// TestTextsAreNew: they share no memory with what was handed in.
func TestTextsAreNew(t *testing.T) {
	s := strings.Repeat("set -5: 1 # x\n", 3)
	l, _, _ := Lex(s)
	for _, x := range l {
		if within(x.Text, s) {
			t.Errorf("the Text of %v is a part of what was handed in", x)
		}
	}
	for n := range len(l) {
		joined := Join(l[:n])
		for _, x := range l {
			if within(joined, x.Text) || within(x.Text, joined) {
				t.Errorf("%d joined share memory with the Text of %v", n, x)
			}
		}
	}
}

// TestJoinLeavesTheList: it is neither changed, nor is read what lies behind it.
func TestJoinLeavesTheList(t *testing.T) {
	whole := texts("a", "1", ":", "b", "2")
	for n := range len(whole) + 1 {
		l := slices.Clone(whole)
		if got, want := Join(l[:n]), strings.Join([]string{"a", "1", ":", "b", "2"}[:n], " "); got != want {
			t.Errorf("of the first %d: %q, want %q", n, got, want)
		}
		if !slices.Equal(l, whole) {
			t.Errorf("of the first %d: the list became %v", n, l)
		}
	}
}
