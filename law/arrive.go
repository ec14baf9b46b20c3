package law

import (
	"math"
	"slices"

	"couplant/api"
	"couplant/check"
	"couplant/ray"
	"couplant/whole"
)

// Arrivals returns when the sound of each element that sends is at a place.
func Arrivals(a api.LawArray, l api.DelayLaw, at api.Spot) ([]api.Range, api.Errno) {
	if e := pairError(a, l); e != api.OK {
		return nil, e
	}
	return array{a}.arrivals(l, at)
}

func (a array) arrivals(l api.DelayLaw, at api.Spot) ([]api.Range, api.Errno) {
	var arrivals []api.Range
	for n, from := range a.Elements {
		t, e := ray.LeastTime(a.Mode, from, at)
		if e != api.OK {
			return nil, e
		}
		if l.Ticks[n] != silent {
			delay := l.Ticks[n] * l.Clock
			arrivals = append(arrivals, api.Range{Lo: t.Lo + delay, Hi: t.Hi + delay})
		}
	}
	return arrivals, api.OK
}

// Spread returns how far the last arrival at a place is behind the first one.
func Spread(a api.LawArray, l api.DelayLaw, at api.Spot) (api.Range, api.Errno) {
	if e := pairError(a, l); e != api.OK {
		return api.Range{}, e
	}
	return array{a}.spread(l, at)
}

func (a array) spread(l api.DelayLaw, at api.Spot) (api.Range, api.Errno) {
	arrivals, e := a.arrivals(l, at)
	if e = check.First(e, check.Unless(len(arrivals) > 0, api.ErrNone)); e != api.OK {
		return api.Range{}, e
	}
	first, last := arrivals[0], arrivals[0]
	for _, t := range arrivals {
		first = api.Range{Lo: min(first.Lo, t.Lo), Hi: min(first.Hi, t.Hi)}
		last = api.Range{Lo: max(last.Lo, t.Lo), Hi: max(last.Hi, t.Hi)}
	}
	return api.Range{Lo: max(last.Lo-first.Hi, 0), Hi: last.Hi - first.Lo}, api.OK
}

// LossOf returns how many thousandths of the amplitude of waves of a period are
// lost at most by a spread.
func LossOf(spread, period int) (int, api.Errno) {
	e := check.First(
		check.Within(spread, 0, api.MaxTime),
		check.Within(period, 1, api.MaxPeriod),
	)
	if e != api.OK {
		return 0, e
	}
	// A spread of a period loses all already; the square of a longer one might
	// not fit into a word.
	spread = min(spread, period)
	return min(whole.DivideUp(5000*spread*spread, period*period), 1000), api.OK
}

// BestAt returns the number of the place at which a law has the least spread.
func BestAt(a api.LawArray, l api.DelayLaw, places []api.Spot) (int, api.Errno) {
	e := check.First(pairError(a, l), check.Count(len(places), api.MaxFoci))
	if e != api.OK {
		return 0, e
	}
	_, e = check.Each(places, func(_ int, at api.Spot) api.Errno {
		return array{a}.placeError(at)
	})
	if e != api.OK {
		return 0, e
	}
	best, least := 0, math.MaxInt
	for n, at := range places {
		s, e := array{a}.spread(l, at)
		if e != api.OK {
			return 0, e
		}
		if s.Hi < least {
			best, least = n, s.Hi
		}
	}
	return best, api.OK
}

// Coarsest returns the greatest clock with which the law of a focus has no
// greater spread there than may be.
func Coarsest(a api.LawArray, focus api.Spot, x api.LawClocks) (int, api.Errno) {
	if e := arrayError(a); e != api.OK {
		return 0, e
	}
	e := check.First(
		array{a}.placeError(focus),
		clocksError(x.Clocks),
		check.Within(x.Most, 0, api.MaxTime),
	)
	if e != api.OK {
		return 0, e
	}
	for _, clock := range slices.Backward(x.Clocks) {
		timed := array{a}
		timed.Clock = clock
		if timed.meets(focus, x.Most) {
			return clock, api.OK
		}
	}
	return 0, api.ErrNone
}

// meets returns whether the law of a focus is there, with no greater spread
// than may be.
func (a array) meets(focus api.Spot, most int) bool {
	l, e := a.focusLaw(focus)
	if e != api.OK {
		return false
	}
	s, e := a.spread(l, focus)
	return e == api.OK && s.Hi <= most
}
