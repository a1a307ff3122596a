package ratio

import (
	"strconv"
	"strings"

	"secateur/api"
)

// Text: it in signs.
func (r Ratio) Text() string {
	if !r.Good() {
		return ""
	}
	s := strconv.FormatInt(r.Num, 10)
	if r.Den == 1 {
		return s
	}
	return s + "/" + strconv.FormatInt(r.Den, 10)
}

// Parse: the quotient of signs.
func Parse(s string) (Ratio, api.Errno) {
	top, bottom, cut := strings.Cut(s, "/")
	if !cut {
		bottom = "1"
	}
	n, errTop := strconv.ParseInt(top, 10, 64)
	d, errBottom := strconv.ParseInt(bottom, 10, 64)
	r := Ratio{n, d}
	// What is read is told again, since a number can be read of more texts than
	// its signs (of those with + or 0 ahead, of 1/1), and nothing is told of what
	// isn't good.
	if errTop != nil || errBottom != nil || r.Text() != s {
		return Ratio{}, api.ErrForm
	}
	return r, api.OK
}
