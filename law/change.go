package law

import (
	"slices"

	"couplant/api"
	"couplant/check"
	"couplant/whole"
)

// Without returns a law in which some elements do not send.
func Without(l api.DelayLaw, dead []int) (api.DelayLaw, api.Errno) {
	e := check.First(lawError(l), check.Numbers(dead, len(l.Ticks)))
	if e != api.OK {
		return api.DelayLaw{}, e
	}
	l.Ticks = slices.Clone(l.Ticks)
	for _, element := range dead {
		l.Ticks[element] = silent
	}
	return l, api.OK
}

// Sending returns the numbers of the elements that send.
func Sending(l api.DelayLaw) ([]int, api.Errno) {
	if e := lawError(l); e != api.OK {
		return nil, e
	}
	return sending(l), api.OK
}

func sending(l api.DelayLaw) []int {
	var numbers []int
	for n, ticks := range l.Ticks {
		if ticks != silent {
			numbers = append(numbers, n)
		}
	}
	return numbers
}

// Aperture returns from where to where along the section elements send.
func Aperture(a api.LawArray, l api.DelayLaw) (api.Range, api.Errno) {
	if e := pairError(a, l); e != api.OK {
		return api.Range{}, e
	}
	var places []int
	for _, n := range sending(l) {
		places = append(places, a.Elements[n].X)
	}
	if len(places) == 0 {
		return api.Range{}, api.ErrNone
	}
	return api.Range{Lo: slices.Min(places), Hi: slices.Max(places)}, api.OK
}

// Normalised returns a law in which the first element that sends does so at
// once.
func Normalised(l api.DelayLaw) (api.DelayLaw, api.Errno) {
	if e := lawError(l); e != api.OK {
		return api.DelayLaw{}, e
	}
	var sent []int
	for _, n := range sending(l) {
		sent = append(sent, l.Ticks[n])
	}
	if len(sent) == 0 {
		return api.DelayLaw{}, api.ErrNone
	}
	first := slices.Min(sent)
	return changed(l, func(_, ticks int) int { return ticks - first })
}

// Added returns the sum of two laws.
func Added(a, b api.DelayLaw) (api.DelayLaw, api.Errno) {
	e := check.First(
		lawError(a),
		lawError(b),
		check.Unless(a.Clock == b.Clock, api.ErrUnit),
		check.Unless(len(a.Ticks) == len(b.Ticks), api.ErrShape),
	)
	if e != api.OK {
		return api.DelayLaw{}, e
	}
	return changed(a, func(n, ticks int) int {
		if b.Ticks[n] == silent {
			return silent
		}
		return ticks + b.Ticks[n]
	})
}

// Recast returns a law with another clock.
func Recast(l api.DelayLaw, clock int) (api.DelayLaw, api.Errno) {
	if e := check.First(lawError(l), clockError(clock)); e != api.OK {
		return api.DelayLaw{}, e
	}
	r, e := changed(l, func(_, ticks int) int { return whole.Nearest(ticks*l.Clock, clock) })
	if e != api.OK {
		return api.DelayLaw{}, e
	}
	r.Clock = clock
	return r, api.OK
}

// changed returns a law in which the elements that send have other ticks.
func changed(l api.DelayLaw, ticksOf func(n, ticks int) int) (api.DelayLaw, api.Errno) {
	l.Ticks = slices.Clone(l.Ticks)
	for _, n := range sending(l) {
		l.Ticks[n] = ticksOf(n, l.Ticks[n])
		if l.Ticks[n] > api.MaxTicks {
			return api.DelayLaw{}, api.ErrLarge
		}
	}
	return l, api.OK
}
