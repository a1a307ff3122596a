package lex

import (
	"strconv"
	"strings"

	"secateur/api"
)

const (
	letters = "abcdefghijklmnopqrstuvwxyz"
	digits  = "0123456789"
)

// passed is how many bytes, with which a text begins, are passed over: those
// of a blank or of a remark.
func passed(s string) int {
	switch s[0] {
	case ' ', '\t', '\r', '\n':
		return 1
	case '#':
		line, _, _ := strings.Cut(s, "\n")
		return len(line)
	}
	return 0
}

// first is the token with which a text begins, but for its place.
func first(s string) (Token, api.Errno) {
	unsigned := strings.TrimPrefix(s, "-")
	run := lead(unsigned, letters+digits)
	switch {
	case s[0] == ':':
		return Token{Kind: Colon, Text: s[:1]}, api.OK
	case run == 0, s[0] == '-' && lead(unsigned, digits) == 0:
		return Token{}, api.ErrByte
	}
	return read(s[:len(s)-len(unsigned)+run])
}

// lead is how many bytes, with which a text begins, are among some.
func lead(s, some string) int {
	return len(s) - len(strings.TrimLeft(s, some))
}

// read is the Word or the Number that a run of letters and digits is, with a
// '-' ahead of it or not.
func read(run string) (Token, api.Errno) {
	if lead(run, letters) == len(run) && len(run) <= api.MaxWord {
		return Token{Kind: Word, Text: run}, api.OK
	}
	unsigned := strings.TrimPrefix(run, "-")
	if lead(unsigned, digits) < len(unsigned) {
		return Token{}, api.ErrWord
	}
	n, err := strconv.ParseInt(run, 10, 64)
	if err != nil { // as they are all digits, it can only be out of range
		return Token{}, api.ErrNum
	}
	return Token{Kind: Number, Text: run, N: n}, api.OK
}
