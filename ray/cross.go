package ray

import (
	"sort"

	"couplant/api"
	"couplant/check"
	"couplant/whole"
)

// perUnit is the picoseconds in a unit of places at a speed of 1, perLength
// those in a thousandth of a unit.
const (
	perUnit   = 10000000
	perLength = 10000
)

// ends are both ends of a way through a plane: their places along it, and
// their heights above and below it.
type ends struct{ x1, h1, x2, h2 int }

// crossing is a way through a plane, with the speeds on both sides.
type crossing struct {
	ends
	v1, v2 int
}

func crossingOf(x api.RayCross) crossing {
	return crossing{ends{x.X1, x.H1, x.X2, x.H2}, x.V1, x.V2}
}

// lengthBetween returns the length from a to b.
func lengthBetween(a, b api.Spot) api.Range {
	if a == b {
		return api.Range{}
	}
	x, z := b.X-a.X, b.Z-a.Z
	square := 1000000 * (x*x + z*z)
	return api.Range{Lo: whole.RootDown(square), Hi: whole.RootUp(square)}
}

// timeOfLength returns the time of a length at a speed.
func timeOfLength(l api.Range, speed int) api.Range {
	return api.Range{
		Lo: whole.DivideDown(l.Lo*perLength, speed),
		Hi: whole.DivideUp(l.Hi*perLength, speed),
	}
}

func sumOf(a, b api.Range) api.Range {
	return api.Range{Lo: a.Lo + b.Lo, Hi: a.Hi + b.Hi}
}

// reach returns the first and the last place of a crossing.
func (c crossing) reach() (first, last int) {
	return min(c.x1, c.x2), max(c.x1, c.x2)
}

func (c crossing) reachError(at int) api.Errno {
	first, last := c.reach()
	return check.Within(at, first, last)
}

// slope returns the sign of the slope at a place of the crossing. Both of its
// terms have the same sign there, so that their squares tell which is greater;
// these are compared without their quotients, and need more than one word.
func (c crossing) slope(at int) int {
	a, b := at-c.x1, c.x2-at
	sign := whole.CompareProducts(
		a*a*c.v2*c.v2, b*b+c.h2*c.h2,
		b*b*c.v1*c.v1, a*a+c.h1*c.h1,
	)
	if c.x1 > c.x2 {
		return -sign
	}
	return sign
}

// timeAt returns the time of both legs at a place of the crossing.
func (c crossing) timeAt(at int) api.Range {
	plane := api.Spot{X: at}
	first := lengthBetween(api.Spot{X: c.x1, Z: c.h1}, plane)
	second := lengthBetween(plane, api.Spot{X: c.x2, Z: c.h2})
	return sumOf(timeOfLength(first, c.v1), timeOfLength(second, c.v2))
}

// fastest returns the crossing of least time: the slope never falls, and is
// not above 0 at the first place.
func (c crossing) fastest() int {
	first, last := c.reach()
	return first + sort.Search(last-first, func(n int) bool {
		return c.slope(first+n+1) > 0
	})
}

// bound returns by how much less than at whole places the time may be between.
func (c crossing) bound() int {
	return whole.DivideUp(perUnit, c.v1*c.h1) + whole.DivideUp(perUnit, c.v2*c.h2)
}

func (c crossing) leastTime() api.Range {
	at := c.fastest()
	t := c.timeAt(at)
	if _, last := c.reach(); at < last {
		next := c.timeAt(at + 1)
		t = api.Range{Lo: min(t.Lo, next.Lo), Hi: min(t.Hi, next.Hi)}
	}
	t.Lo = max(t.Lo-c.bound(), 0)
	return t
}
