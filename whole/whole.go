// Package whole is no layer: it holds the arithmetic of whole numbers that the
// layers share.
package whole

import (
	"cmp"
	"math"
	"math/bits"

	"couplant/api"
)

// DivideDown returns a / b, rounded down; b is above 0.
func DivideDown(a, b int) int {
	q := a / b
	if a%b < 0 {
		q--
	}
	return q
}

// DivideUp returns a / b, rounded up; b is above 0.
func DivideUp(a, b int) int {
	q := a / b
	if a%b > 0 {
		q++
	}
	return q
}

// Enclosed returns a / b, rounded down and up; b is above 0.
func Enclosed(a, b int) api.Range {
	return api.Range{Lo: DivideDown(a, b), Hi: DivideUp(a, b)}
}

// Nearest returns a / b, rounded to the nearest whole number, halves up; b is
// above 0.
func Nearest(a, b int) int {
	return DivideDown(2*a+b, 2*b)
}

// RootDown returns the root of n, rounded down; n is from 0 to 2^62 - 1.
func RootDown(n int) int {
	// Newton's steps fall towards the root, and not below it, if they begin at
	// or above it.
	r := 1 << ((bits.Len(uint(n)) + 1) / 2)
	for r*r > n {
		r = (r + n/r) / 2
	}
	return r
}

// RootUp returns the root of n, rounded up; n is from 0 to 2^62 - 1.
func RootUp(n int) int {
	r := RootDown(n)
	if r*r < n {
		r++
	}
	return r
}

// SizeOf returns how far n is from 0, also of the least number there is.
func SizeOf(n int) uint {
	if n < 0 {
		return -uint(n)
	}
	return uint(n)
}

// CompareProducts compares a b with c d, none of these numbers below 0; the
// products need not fit into a word.
func CompareProducts(a, b, c, d int) int {
	high, low := bits.Mul64(uint64(a), uint64(b))
	otherHigh, otherLow := bits.Mul64(uint64(c), uint64(d))
	return cmp.Or(cmp.Compare(high, otherHigh), cmp.Compare(low, otherLow))
}

// CommonDivisor returns the greatest number that divides both a and b.
func CommonDivisor(a, b int) uint {
	x, y := SizeOf(a), SizeOf(b)
	for y != 0 {
		x, y = y, x%y
	}
	return x
}

// LowestTerms returns num / den in lowest terms; den is above 0.
func LowestTerms(num, den int) api.Frac {
	d := int(CommonDivisor(num, den))
	return api.Frac{Num: num / d, Den: den / d}
}

// IsWhole returns whether a float is a whole number.
func IsWhole(x float64) bool {
	return x == math.Trunc(x) && !math.IsInf(x, 0)
}
