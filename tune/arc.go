package tune

import (
	"math"

	"couplant/api"
	"couplant/check"
	"couplant/whole"
)

// perUnit is how many picoseconds sound takes through a hundredth of a
// millimetre at a metre a second.
const perUnit = 10000000

// arcs is arcs that are right.
type arcs []api.TuneArc

// pairs yields the numbers of each two arcs, ascending.
func (l arcs) pairs(yield func(inner, outer int) bool) {
	for inner := range l {
		for outer := inner + 1; outer < len(l); outer++ {
			if !yield(inner, outer) {
				return
			}
		}
	}
}

// apart returns how far two arcs are apart: an arc whose time has no delay.
func (l arcs) apart(inner, outer int) api.TuneArc {
	a, b := l[inner], l[outer]
	return api.TuneArc{
		Radius: b.Radius - a.Radius,
		Time:   api.Range{Lo: b.Time.Lo - a.Time.Hi, Hi: b.Time.Hi - a.Time.Lo},
	}
}

// least returns the place of the least end of an arc on lines, greatest that of
// its greatest end.
func (l arcs) least(n int) point    { return point{l[n].Radius, l[n].Time.Lo} }
func (l arcs) greatest(n int) point { return point{l[n].Radius, l[n].Time.Hi} }

// isPossible returns whether a slowness is possible: none that a pair allows is
// greater than all that another one allows.
func (l arcs) isPossible() bool {
	for inner, outer := range l.pairs {
		a := l.apart(inner, outer)
		for first, second := range l.pairs {
			b := l.apart(first, second)
			if a.Time.Lo*b.Radius > b.Time.Hi*a.Radius {
				return false
			}
		}
	}
	return true
}

// mayBeZero returns whether a slowness of 0 or less is possible, if any is.
func (l arcs) mayBeZero() bool {
	for inner, outer := range l.pairs {
		if l.apart(inner, outer).Time.Lo > 0 {
			return false
		}
	}
	return true
}

// possibleError returns the error of arcs, and ErrNone if no slowness is
// possible.
func possibleError(l []api.TuneArc) api.Errno {
	if e := arcsError(l); e != api.OK {
		return e
	}
	return check.Unless(arcs(l).isPossible(), api.ErrNone)
}

// SpeedRange returns the enclosure of all speeds that explain arcs with some
// delay.
func SpeedRange(l []api.TuneArc) (api.Range, api.Errno) {
	if e := possibleError(l); e != api.OK {
		return api.Range{}, e
	}
	if arcs(l).mayBeZero() {
		return api.Range{}, api.ErrZero
	}
	return arcs(l).speeds(), api.OK
}

// speeds returns the enclosure of all speeds, if each slowness that is possible
// is above 0.
func (l arcs) speeds() api.Range {
	r := api.Range{Hi: math.MaxInt}
	for inner, outer := range l.pairs {
		a := l.apart(inner, outer)
		way := 2 * a.Radius * perUnit
		r.Lo = max(r.Lo, whole.DivideDown(way, a.Time.Hi))
		if a.Time.Lo > 0 {
			r.Hi = min(r.Hi, whole.DivideUp(way, a.Time.Lo))
		}
	}
	return r
}

// DelayRange returns the enclosure of all delays that explain arcs with some
// slowness.
func DelayRange(l []api.TuneArc) (api.Range, api.Errno) {
	if e := possibleError(l); e != api.OK {
		return api.Range{}, e
	}
	return arcs(l).delays(), api.OK
}

// delays returns the enclosure of the delays: at the radius 0 lies the delay of
// each line that meets all arcs, and the lines through opposite ends of two arcs
// bound it.
func (l arcs) delays() api.Range {
	r := api.Range{Lo: math.MinInt, Hi: math.MaxInt}
	for inner, outer := range l.pairs {
		r.Lo = max(r.Lo, whole.DivideDown(lineAt(l.least(inner), l.greatest(outer), 0)))
		r.Hi = min(r.Hi, whole.DivideUp(lineAt(l.greatest(inner), l.least(outer), 0)))
	}
	return r
}

// Contradiction returns the numbers of the first three arcs that contradict.
func Contradiction(l []api.TuneArc) ([3]int, api.Errno) {
	if e := arcsError(l); e != api.OK {
		return [3]int{}, e
	}
	for inner, middle := range arcs(l).pairs {
		for outer := middle + 1; outer < len(l); outer++ {
			if three := [3]int{inner, middle, outer}; arcs(l).contradict(three) {
				return three, api.OK
			}
		}
	}
	return [3]int{}, api.ErrNone
}

// contradict returns whether no line meets three arcs.
func (l arcs) contradict(three [3]int) bool {
	inner, middle, outer := three[0], three[1], three[2]
	between := l[middle]
	upper, den := lineAt(l.greatest(inner), l.greatest(outer), between.Radius)
	lower, _ := lineAt(l.least(inner), l.least(outer), between.Radius)
	return upper < between.Time.Lo*den || lower > between.Time.Hi*den
}

// Explains returns whether a delay and a speed explain all arcs.
func Explains(l []api.TuneArc, delay, speed int) (bool, api.Errno) {
	e := check.First(
		arcsError(l),
		check.Within(delay, -api.MaxTime, api.MaxTime),
		check.Speed(speed),
	)
	if e != api.OK {
		return false, e
	}
	for _, a := range l {
		way := 2 * a.Radius * perUnit
		if way < (a.Time.Lo-delay)*speed || way > (a.Time.Hi-delay)*speed {
			return false, api.OK
		}
	}
	return true, api.OK
}
