package lex

import (
	"strings"
	"testing"
	"unicode/utf8"

	"secateur/api"
)

// P8.1: bytes that are no UTF-8, and code points with which no token begins.

// broken begin with a byte with which no code point's UTF-8 begins.
var broken = []string{
	"\x80", "\xbf", "\xc0", "\xc1", "\xfe", "\xff",
	"\xc3", "\xe2", "\xe2\x82", "\xf0", "\xf0\x9f", "\xf0\x9f\x98", // cut off
	"\xc3 ", "\xe2\x82a", "\xe2a\xac", "\xf0\x9f\x98:", "\xc3\n", "\xc3\xc3\xa9", "\xe2\x82\xe2\x82\xac", // broken off
	"\xc0\x80", "\xc1\xbf", "\xe0\x80\x80", "\xe0\x9f\xbf", "\xf0\x80\x80\x80", "\xf0\x8f\xbf\xbf", // too long for what they tell
	"\xed\xa0\x80", "\xed\xbf\xbf", // halves of a pair
	"\xf4\x90\x80\x80", "\xf5\x80\x80\x80", "\xf8\x88\x80\x80\x80", // beyond U+10FFFF
}

func TestLexOfBrokenBytes(t *testing.T) {
	for _, x := range broken {
		for _, behind := range []string{"", " ", "a", "7", "\n", "\u00e9"} {
			s := x + behind
			fails(t, s, 1, 1, api.ErrByte)
			fails(t, "a "+s, 1, 3, api.ErrByte)
			fails(t, ":\n\t"+s, 2, 2, api.ErrByte)
			fails(t, "ab"+s+"cd", 1, 3, api.ErrByte)
			fails(t, "12"+s+"34", 1, 3, api.ErrByte)
			fails(t, "-12"+s+"34", 1, 4, api.ErrByte)
			fails(t, "#"+s, 1, 2, api.ErrByte)
			fails(t, "# \u00e9\u20ac\U0001f600"+s, 1, 6, api.ErrByte)
			fails(t, "a\n #\ufffd"+s+"\nb", 2, 4, api.ErrByte)
			fails(t, "#\n"+s, 2, 1, api.ErrByte)
		}
	}
}

// TestLexOfEachByte: between tokens, within a run, and in a remark.
func TestLexOfEachByte(t *testing.T) {
	for b := range 256 {
		s := string([]byte{byte(b)})
		if b >= utf8.RuneSelf {
			fails(t, "a "+s+" a", 1, 3, api.ErrByte)
			fails(t, "a"+s+"a", 1, 2, api.ErrByte)
			fails(t, "# "+s+" a", 1, 3, api.ErrByte)
			continue
		}
		if l, _, e := Lex("# " + s + " a"); e != api.OK || (len(l) == 1) != (s != "\n") {
			t.Errorf("P8.1: %q in a remark: %v, %d", s, l, e)
		}
		if strings.Contains(" \t\r\n:#abcdefghijklmnopqrstuvwxyz0123456789", s) {
			if l, p, e := Lex(": " + s + " a"); len(l) == 0 || p != (Pos{}) || e != api.OK {
				t.Errorf("P8.1: %q between tokens: %v, %v, %d", s, l, p, e)
			}
			continue
		}
		fails(t, "a "+s+" a", 1, 3, api.ErrByte)
		fails(t, "a"+s+"a", 1, 2, api.ErrByte)
		fails(t, "1"+s, 1, 2, api.ErrByte)
	}
}

// TestLexOfEachCodePoint: beyond one byte there are none with which a token
// begins, nor blanks, nor letters, nor digits; all may stand in a remark.
func TestLexOfEachCodePoint(t *testing.T) {
	for c := rune(utf8.RuneSelf); c <= utf8.MaxRune; c++ {
		if !utf8.ValidRune(c) {
			continue
		}
		s := string(c)
		fails(t, ":"+s, 1, 2, api.ErrByte)
		fails(t, "a"+s+"a", 1, 2, api.ErrByte)
		reads(t, "#"+s+"\n", tok(End, "", 0, 2, 1))
	}
}

// TestLexOfOtherSigns: those that look like a blank, a letter, a digit, or a sign.
func TestLexOfOtherSigns(t *testing.T) {
	for _, s := range []string{
		"A", "Z", "_", "+", "=", "/", ";", "*", "|", "(", ".", ",", "'", "\"", "\\", "@", "[", "`", "{", "~", "\x00", "\v", "\f", "\x1f", "\x7f",
		"\u00a0", "\u0085", "\u2028", "\u3000", "\ufeff", "\u00e9", "\u0131", "\uff41", "\u0660", "\uff11", "\u2212", "\uff1a", "\uff03", "\ufffd",
	} {
		fails(t, s, 1, 1, api.ErrByte)
		fails(t, "a "+s, 1, 3, api.ErrByte)
		fails(t, "a"+s, 1, 2, api.ErrByte)
		fails(t, "1"+s+"1", 1, 2, api.ErrByte)
		fails(t, ":\n-1:"+s, 2, 4, api.ErrByte)
	}
}
