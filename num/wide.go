package num

import (
	"cmp"
	"math"
	"math/bits"
)

// wide is a whole number of 128 bits in two's complement: the product of two
// int64, and the sum of fewer than 2^64 of them, is always in its range, so
// that what is beyond 64 bits has to be looked for only once, at the end.
type wide struct {
	hi int64
	lo uint64
}

func widen(a int64) wide {
	return wide{hi: a >> 63, lo: uint64(a)}
}

func (x wide) plus(y wide) wide {
	lo, carry := bits.Add64(x.lo, y.lo, 0)
	return wide{hi: x.hi + y.hi + int64(carry), lo: lo}
}

func (x wide) minus(y wide) wide {
	lo, borrow := bits.Sub64(x.lo, y.lo, 0)
	return wide{hi: x.hi - y.hi - int64(borrow), lo: lo}
}

func product(a, b int64) wide {
	hi, lo := bits.Mul64(uint64(a), uint64(b))
	h := int64(hi)
	// Read as unsigned, a number below 0 is 2^64 too great: the other factor
	// is once too often in the upper half.
	if a < 0 {
		h -= b
	}
	if b < 0 {
		h -= a
	}
	return wide{hi: h, lo: lo}
}

func total(l []int64) wide {
	var t wide
	for _, n := range l {
		t = t.plus(widen(n))
	}
	return t
}

func (x wide) narrow() (int64, bool) {
	n := int64(x.lo)
	if widen(n) != x {
		return 0, false
	}
	return n, true
}

func (x wide) compare(y wide) int {
	return cmp.Or(cmp.Compare(x.hi, y.hi), cmp.Compare(x.lo, y.lo))
}

// floor divides by d, which is from 1 to 2^63 - 1, and rounds down.
func (x wide) floor(d uint64) (int64, bool) {
	if x.hi >= 0 {
		return quotient(uint64(x.hi), x.lo, d)
	}
	// ^x is -1 - x, which isn't below 0, and rounding its quotient down and
	// taking -1 - that rounds the quotient of x down; either is in the range
	// if and only if the other one is.
	q, ok := quotient(uint64(^x.hi), ^x.lo, d)
	if !ok {
		return 0, false
	}
	return ^q, true
}

func quotient(hi, lo, d uint64) (int64, bool) {
	if hi >= d { // bits.Div64 would panic: the quotient is above 64 bits
		return 0, false
	}
	q, _ := bits.Div64(hi, lo, d)
	if q > math.MaxInt64 {
		return 0, false
	}
	return int64(q), true
}
