package cover

import (
	"couplant/api"
	"couplant/whole"
)

// The ends of each face, as points.
var (
	start = api.CoverPoint{Num: 0, Den: 1}
	end   = api.CoverPoint{Num: 1, Den: 1}
)

// pointOf returns the point of a share that is not below 0, in lowest terms.
func pointOf(num, den int) api.CoverPoint {
	return api.CoverPoint(whole.LowestTerms(num, den))
}

// compare tells which of two points comes before the other one.
func compare(a, b api.CoverPoint) int {
	return whole.CompareProducts(a.Num, b.Den, b.Num, a.Den)
}

// earlier returns the one of two points that comes before the other one, later
// the other one.
func earlier(a, b api.CoverPoint) api.CoverPoint {
	if compare(a, b) <= 0 {
		return a
	}
	return b
}

func later(a, b api.CoverPoint) api.CoverPoint {
	if compare(a, b) <= 0 {
		return b
	}
	return a
}

// between returns a point between two other ones. The middle might have a
// greater Den than MaxCoverDen; this one has at most the sum of both Dens, which
// are at most 2 10^11 where parts end.
func between(a, b api.CoverPoint) api.CoverPoint {
	return pointOf(a.Num+b.Num, a.Den+b.Den)
}
