// Package num is layer 1: see shared/doc/01-num.md.
package num

import "math"

// Add: the sum.
func Add(a, b int64) (int64, bool) {
	return widen(a).plus(widen(b)).narrow()
}

// Sub: the difference.
func Sub(a, b int64) (int64, bool) {
	return widen(a).minus(widen(b)).narrow()
}

// Mul: the product.
func Mul(a, b int64) (int64, bool) {
	return product(a, b).narrow()
}

// Neg: the opposite.
func Neg(a int64) (int64, bool) {
	return Sub(0, a)
}

// Floor: the quotient, rounded down.
func Floor(a, b int64) (int64, bool) {
	if !canDivide(a, b) {
		return 0, false
	}
	q := a / b
	if a%b != 0 && (a < 0) != (b < 0) {
		q-- // Go's own quotient is rounded towards 0, which is up below 0
	}
	return q, true
}

// Ceil: the quotient, rounded up.
func Ceil(a, b int64) (int64, bool) {
	if !canDivide(a, b) {
		return 0, false
	}
	q := a / b
	if a%b != 0 && (a < 0) == (b < 0) {
		q++ // Go's own quotient is rounded towards 0, which is down above 0
	}
	return q, true
}

// canDivide tells whether there is a quotient, and it is in the range: of those by
// another number than 0, one alone is beyond it.
func canDivide(a, b int64) bool {
	return b != 0 && !(a == math.MinInt64 && b == -1)
}

// Sum: of all numbers.
func Sum(l ...int64) (int64, bool) {
	return total(l).narrow()
}

// FloorSum: the sum of all numbers divided by d, rounded down.
func FloorSum(d int64, l ...int64) (int64, bool) {
	if d <= 0 {
		return 0, false
	}
	return total(l).floor(uint64(d))
}

// Gcd: the greatest common divisor.
func Gcd(a, b int64) (int64, bool) {
	x, y := magnitude(a), magnitude(b)
	for y != 0 {
		x, y = y, x%y
	}
	if x > math.MaxInt64 {
		return 0, false
	}
	return int64(x), true
}

// magnitude is unsigned, since that of -2^63 is no int64.
func magnitude(a int64) uint64 {
	if a < 0 {
		return -uint64(a)
	}
	return uint64(a)
}

// Cross: -1, 0 or 1, as a times d is less than, equal to, or greater than c times b.
func Cross(a, b, c, d int64) int {
	return product(a, d).compare(product(c, b))
}
