// Package ray is chapter 1: least travel times of sound, straight, through a
// plane between two speeds, with skips between the walls of a plate, and with
// another speed behind the back wall. Times are enclosures in picoseconds.
package ray

import (
	"couplant/api"
	"couplant/check"
)

// Length returns the length from a to b, in thousandths of a unit of places.
func Length(a, b api.Spot) (api.Range, api.Errno) {
	if e := check.First(check.Place(a), check.Place(b)); e != api.OK {
		return api.Range{}, e
	}
	return lengthBetween(a, b), api.OK
}

// TimeOf returns how long sound takes from a to b at one speed.
func TimeOf(a, b api.Spot, speed int) (api.Range, api.Errno) {
	if e := check.First(check.Place(a), check.Place(b), check.Speed(speed)); e != api.OK {
		return api.Range{}, e
	}
	return timeOfLength(lengthBetween(a, b), speed), api.OK
}

// CheckCross returns the error of a crossing.
func CheckCross(x api.RayCross) api.Errno {
	return check.First(
		check.Within(x.X1, -api.MaxPlace, api.MaxPlace),
		check.Within(x.X2, -api.MaxPlace, api.MaxPlace),
		check.Within(x.H1, 1, api.MaxPlace),
		check.Within(x.H2, 1, api.MaxPlace),
		check.Speed(x.V1),
		check.Speed(x.V2),
	)
}

// SlopeAt returns the sign of the slope of a crossing at a place.
func SlopeAt(x api.RayCross, at int) (int, api.Errno) {
	c := crossingOf(x)
	if e := check.First(CheckCross(x), c.reachError(at)); e != api.OK {
		return 0, e
	}
	return c.slope(at), api.OK
}

// TimeAt returns the time of a crossing at a place.
func TimeAt(x api.RayCross, at int) (api.Range, api.Errno) {
	c := crossingOf(x)
	if e := check.First(CheckCross(x), c.reachError(at)); e != api.OK {
		return api.Range{}, e
	}
	return c.timeAt(at), api.OK
}

// Crossing returns the crossing of least time.
func Crossing(x api.RayCross) (int, api.Errno) {
	if e := CheckCross(x); e != api.OK {
		return 0, e
	}
	return crossingOf(x).fastest(), api.OK
}

// CheckCrossing accepts the crossing of least time, by the slopes there and at
// the next place alone.
func CheckCrossing(x api.RayCross, at int) api.Errno {
	c := crossingOf(x)
	if e := check.First(CheckCross(x), c.reachError(at)); e != api.OK {
		return e
	}
	_, last := c.reach()
	if c.slope(at) > 0 || at != last && c.slope(at+1) <= 0 {
		return api.ErrProof
	}
	return api.OK
}

// Least returns the least time of a crossing.
func Least(x api.RayCross) (api.Range, api.Errno) {
	if e := CheckCross(x); e != api.OK {
		return api.Range{}, e
	}
	return crossingOf(x).leastTime(), api.OK
}
