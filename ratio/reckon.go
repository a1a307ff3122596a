package ratio

import "secateur/num"

// Add: the sum.
func Add(a, b Ratio) (Ratio, bool) {
	if !a.Good() || !b.Good() {
		return Ratio{}, false
	}
	d := common(a.Den, b.Den)
	x, hasX := num.Mul(a.Num, b.Den/d)
	y, hasY := num.Mul(b.Num, a.Den/d)
	n, hasNum := num.Add(x, y)
	den, hasDen := num.Mul(a.Den, b.Den/d)
	if !hasX || !hasY || !hasNum || !hasDen {
		return Ratio{}, false
	}
	return lowest(n, den)
}

// Mul: the product.
func Mul(a, b Ratio) (Ratio, bool) {
	if !a.Good() || !b.Good() {
		return Ratio{}, false
	}
	c, d := common(a.Num, b.Den), common(b.Num, a.Den)
	n, hasNum := num.Mul(a.Num/c, b.Num/d)
	den, hasDen := num.Mul(a.Den/d, b.Den/c)
	if !hasNum || !hasDen {
		return Ratio{}, false
	}
	return Ratio{n, den}, true // what could be divided out, c and d did
}

// Sub: the difference.
func Sub(a, b Ratio) (Ratio, bool) {
	minus, ok := opposite(b)
	if !ok {
		return Ratio{}, false
	}
	return Add(a, minus)
}

// opposite is good if and only if r is: Make would make good what isn't.
func opposite(r Ratio) (Ratio, bool) {
	n, ok := num.Neg(r.Num)
	if !ok {
		return Ratio{}, false
	}
	return Ratio{n, r.Den}, true
}

// Quo: the quotient.
func Quo(a, b Ratio) (Ratio, bool) {
	if !b.Good() { // Make would make good what isn't
		return Ratio{}, false
	}
	over, ok := Make(b.Den, b.Num)
	if !ok {
		return Ratio{}, false
	}
	return Mul(a, over)
}

// Simplest: the one with the least Den between two.
func Simplest(a, b Ratio) (Ratio, bool) {
	if !a.Good() || !b.Good() || Cmp(a, b) > 0 {
		return Ratio{}, false
	}
	if a.Num > 0 {
		return between(a, b), true
	}
	if b.Num >= 0 {
		return Of(0), true
	}
	low, hasLow := opposite(b)
	high, hasHigh := opposite(a)
	if !hasLow || !hasHigh {
		return Ratio{}, false
	}
	return opposite(between(low, high))
}

// between is Simplest of good ratios above 0, the first of which isn't above the
// second. Where no whole number lies between them, both have the same whole
// part, and the simplest is that part and 1 over the simplest between what 1
// divided by their rests comes to. Nothing leaves 64 bits: the answer's Num and
// Den are each the least that a ratio between a and b has, so no greater than a's.
func between(a, b Ratio) Ratio {
	whole := a.Num / a.Den
	if a.Den == 1 {
		return a
	}
	if whole < b.Num/b.Den {
		return Of(whole + 1)
	}
	inner := between(Ratio{b.Den, b.Num % b.Den}, Ratio{a.Den, a.Num % a.Den})
	return Ratio{whole*inner.Num + inner.Den, inner.Num}
}
