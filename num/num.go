// Package num is layer 1: numbers that do not go round: see shared/doc/01-num.md.
package num

import (
	"epact/api"
)

// Add tells a and b together, and false where that is too much.
func Add(a, b int) (int, bool) {
	// What is left up to the end is asked ahead of the sum, so that nothing goes round.
	if b > 0 && a > api.MaxInt-b || b < 0 && a < api.MinInt-b {
		return 0, false
	}
	return a + b, true
}

// Sub tells a less b, and false where that is too much.
func Sub(a, b int) (int, bool) {
	// It is no Add of -b: MinInt has no counterpart.
	if b < 0 && a > api.MaxInt+b || b > 0 && a < api.MinInt+b {
		return 0, false
	}
	return a - b, true
}

// Mul tells a times b, and false where that is too much.
func Mul(a, b int) (int, bool) {
	if a == 0 {
		return 0, true
	}
	// By -1 the check below would be blind: MinInt divided by -1 goes round to itself.
	if a == -1 {
		return Sub(0, b)
	}
	// What goes round is off by 2^64 at least; a quotient of b leaves room for less than a.
	n := a * b
	if n/a != b {
		return 0, false
	}
	return n, true
}

// Div tells the quotient and the remainder of a by b, rounded down, and false of b below 1.
func Div(a, b int) (int, int, bool) {
	if b < 1 {
		return 0, 0, false
	}
	q, r := a/b, a%b
	// Go rounds to 0; below 0 that is one too high, unless there is no remainder.
	if r < 0 {
		q--
		r += b
	}
	return q, r, true
}

// Sum tells all of l together, and false where that is too much on the way, even if the whole were not.
func Sum(l ...int) (int, bool) {
	total := 0
	for _, n := range l {
		t, ok := Add(total, n)
		if !ok {
			return 0, false
		}
		total = t
	}
	return total, true
}
