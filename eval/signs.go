package eval

import (
	"strconv"
	"strings"

	"secateur/api"
)

const none = "-"

// Text: an answer in signs.
func Text(x []int) string {
	if len(x) == 0 {
		return none
	}
	var b strings.Builder
	for at, n := range x {
		if at > 0 {
			b.WriteByte(' ')
		}
		b.WriteString(strconv.Itoa(n))
	}
	return b.String()
}

// Parse: the answer of signs.
func Parse(s string) ([]int, api.Errno) {
	if s == none {
		return nil, api.OK
	}
	var x []int
	for sign := range strings.SplitSeq(s, " ") {
		n, ok := number(sign)
		if !ok {
			return nil, api.ErrForm
		}
		x = append(x, n)
	}
	return x, api.OK
}

// number is that from 0 on of which something is the sign. One number alone may
// be meant by more than its sign, as by 01 and +1.
func number(sign string) (int, bool) {
	n, err := strconv.Atoi(sign)
	if err != nil || n < 0 || strconv.Itoa(n) != sign {
		return 0, false
	}
	return n, true
}
