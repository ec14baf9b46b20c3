package ray

import (
	"cmp"
	"math/bits"

	"couplant/api"
)

// divideDown returns a / b, rounded down; b is above 0.
func divideDown(a, b int) int {
	q := a / b
	if a%b < 0 {
		q--
	}
	return q
}

// divideUp returns a / b, rounded up; b is above 0.
func divideUp(a, b int) int {
	q := a / b
	if a%b > 0 {
		q++
	}
	return q
}

// rootDown returns the root of n, rounded down; n is not below 0.
func rootDown(n int) int {
	// Newton's steps fall towards the root, and not below it, if they begin at
	// or above it.
	r := 1 << ((bits.Len(uint(n)) + 1) / 2)
	for r*r > n {
		r = (r + n/r) / 2
	}
	return r
}

// rootUp returns the root of n, rounded up; n is not below 0.
func rootUp(n int) int {
	r := rootDown(n)
	if r*r < n {
		r++
	}
	return r
}

// sizeOf returns how far n is from 0, also of the least number there is.
func sizeOf(n int) uint {
	if n < 0 {
		return -uint(n)
	}
	return uint(n)
}

// commonDivisor returns the greatest number that divides both a and b.
func commonDivisor(a, b int) uint {
	x, y := sizeOf(a), sizeOf(b)
	for y != 0 {
		x, y = y, x%y
	}
	return x
}

// lowestTerms returns num / den in lowest terms; den is above 0.
func lowestTerms(num, den int) api.Frac {
	d := int(commonDivisor(num, den))
	return api.Frac{Num: num / d, Den: den / d}
}

// wide is a number of two words, for what one word cannot hold.
type wide struct{ high, low uint64 }

func wideProduct(a, b int) wide {
	high, low := bits.Mul64(uint64(a), uint64(b))
	return wide{high, low}
}

func (w wide) compare(v wide) int {
	return cmp.Or(cmp.Compare(w.high, v.high), cmp.Compare(w.low, v.low))
}
