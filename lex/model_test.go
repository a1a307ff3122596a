package lex

import (
	"math/big"
	"regexp"
	"slices"
	"strings"
	"testing"
	"unicode/utf8"

	"secateur/api"
)

// P8.1, held against a model: patterns for what the chapter tells, and places
// counted anew from the text's beginning.

var (
	over   = regexp.MustCompile(`^[ \t\r\n]+`)
	remark = regexp.MustCompile(`^#[^\n]*`)
	run    = regexp.MustCompile(`^(-[0-9])?[a-z0-9]*`)
	word   = regexp.MustCompile(`^[a-z]{1,32}$`)
	number = regexp.MustCompile(`^-?[0-9]+$`)
)

// place is that of the byte i of a text that is UTF-8 up to it.
func place(s string, i int) Pos {
	ahead := s[:i]
	return Pos{1 + strings.Count(ahead, "\n"), 1 + utf8.RuneCountInString(ahead[strings.LastIndex(ahead, "\n")+1:])}
}

// brokenAt is the first byte of a text with which no code point's UTF-8
// begins; -1, if there is none.
func brokenAt(s string) int {
	for i := 0; i < len(s); {
		c, n := utf8.DecodeRuneInString(s[i:])
		if c == utf8.RuneError && n == 1 {
			return i
		}
		i += n
	}
	return -1
}

func model(s string) ([]Token, Pos, api.Errno) {
	var l []Token
	for i := 0; i < len(s); {
		rest := s[i:]
		x := Token{Pos: place(s, i)}
		switch {
		case over.MatchString(rest):
			i += len(over.FindString(rest))
			continue
		case remark.MatchString(rest):
			r := remark.FindString(rest)
			if at := brokenAt(r); at >= 0 {
				return nil, place(s, i+at), api.ErrByte
			}
			i += len(r)
			continue
		case rest[0] == ':':
			x.Kind, x.Text = Colon, ":"
		case run.FindString(rest) == "":
			return nil, x.Pos, api.ErrByte
		default:
			x.Text = run.FindString(rest)
			if word.MatchString(x.Text) {
				break
			}
			n, ok := new(big.Int).SetString(x.Text, 10)
			if !ok || !number.MatchString(x.Text) {
				return nil, x.Pos, api.ErrWord
			}
			if !n.IsInt64() {
				return nil, x.Pos, api.ErrNum
			}
			x.Kind, x.N = Number, n.Int64()
		}
		l = append(l, x)
		i += len(x.Text)
	}
	return append(l, Token{Kind: End, Pos: place(s, len(s))}), Pos{}, api.OK
}

// holds tests Lex of s against the model, and P8.2's last sentence.
func holds(t *testing.T, s string) {
	t.Helper()
	l, p, e := Lex(s)
	want, wantPos, wantErr := model(s)
	if !slices.Equal(l, want) || p != wantPos || e != wantErr {
		t.Errorf("P8.1: Lex(%q) is %v, %v, %d; want %v, %v, %d", s, l, p, e, want, wantPos, wantErr)
	}
	if e == api.OK {
		joinsAgain(t, l)
	}
}

// sequences hands on all texts of at most n of the pieces.
func sequences(pieces []string, n int, f func(string)) {
	f("")
	if n == 0 {
		return
	}
	for _, x := range pieces {
		sequences(pieces, n-1, func(s string) {
			f(x + s)
		})
	}
}

func TestModelOfSigns(t *testing.T) {
	sequences([]string{"a", "1", "-", ":", " ", "\n", "#", "\u00e9"}, 5, func(s string) { holds(t, s) })
}

func TestModelOfBytes(t *testing.T) {
	sequences([]string{"a", "#", "\n", "\xe2", "\x82", "\xac", "\xff", "\xf0\x9f"}, 5, func(s string) { holds(t, s) })
}

func TestModelOfBlanks(t *testing.T) {
	sequences([]string{"b", "0", "-", "\t", "\r", "\n", " ", "\v"}, 4, func(s string) { holds(t, s) })
}

func TestModelOfGreatPieces(t *testing.T) {
	sequences([]string{
		strings.Repeat("a", 16), strings.Repeat("z", 32), strings.Repeat("m", 33), "9223372036854775807", "-9223372036854775808", "9223372036854775808",
		"-9223372036854775809", strings.Repeat("0", 40), "# \u20ac\U0001f600", "\r\n", "\ufffd", "-", ":", "7", " ",
	}, 3, func(s string) { holds(t, s) })
}

// TestModelOfLongTexts: some hundred pieces, strewn; each other text has, at
// some place, one at which it fails.
func TestModelOfLongTexts(t *testing.T) {
	pieces := []string{
		"set ", "7\n", " -5 ", ":", " ", "\n", "\t", "\r\n", "# caf\u00e9 \u20ac\n", "#\U0001f600\n", " 007 ", " -9223372036854775808:",
		":9223372036854775807\n", "\ta:", "-0 ", "::", "\n\n", " z -9 ", "###\n", "#\ufffd\n ",
	}
	faults := []string{" 1a", "A", "\xff", " - ", " 9223372036854775808 ", ":" + strings.Repeat("q", 33), "# \xe2\x82\n"}
	at := uint32(1)
	next := func(n int) int {
		at = at*1664525 + 1013904223
		return int(at>>16) % n
	}
	right := 0
	for n := range 300 {
		l := make([]string, 200)
		for i := range l {
			l[i] = pieces[next(len(pieces))]
		}
		if n%2 == 1 {
			l[next(len(l))] = faults[next(len(faults))]
		}
		s := strings.Join(l, "")
		holds(t, s)
		if _, _, e := Lex(s); e == api.OK {
			right++
		}
	}
	if right != 150 {
		t.Errorf("of 300 texts %d are right", right)
	}
}
