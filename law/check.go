package law

import (
	"couplant/api"
	"couplant/check"
	"couplant/ray"
)

// CheckArray returns the error of an array, and the number of the element that
// has it.
func CheckArray(a api.LawArray) (int, api.Errno) {
	n, e := check.Elements(a.Elements)
	return n, check.First(e, ray.CheckMode(a.Mode), clockError(a.Clock))
}

// CheckLaw returns the error of a law, and the number of the element that has
// it.
func CheckLaw(l api.DelayLaw) (int, api.Errno) {
	e := check.First(clockError(l.Clock), check.Count(len(l.Ticks), api.MaxElements))
	if e != api.OK {
		return 0, e
	}
	return check.Each(l.Ticks, func(_, ticks int) api.Errno {
		return check.Within(ticks, silent, api.MaxTicks)
	})
}

// CheckTurn returns the error of a direction.
func CheckTurn(t api.LawTurn) api.Errno {
	return check.First(
		check.Within(t.R, 1, api.MaxDirection),
		check.Unless(hasUnitLength(t), api.ErrShape),
		check.Unless(t.Q > 0, api.ErrKind),
	)
}

// hasUnitLength returns whether P / R and Q / R are a sine and a cosine.
func hasUnitLength(t api.LawTurn) bool {
	// The squares of what is longer than R might not fit into a word.
	isLonger := t.P < -t.R || t.P > t.R || t.Q < -t.R || t.Q > t.R
	return !isLonger && t.P*t.P+t.Q*t.Q == t.R*t.R
}

func arrayError(a api.LawArray) api.Errno {
	_, e := CheckArray(a)
	return e
}

func lawError(l api.DelayLaw) api.Errno {
	_, e := CheckLaw(l)
	return e
}

// pairError returns the error of an array and of a law of it.
func pairError(a api.LawArray, l api.DelayLaw) api.Errno {
	return check.First(
		arrayError(a),
		lawError(l),
		check.Unless(len(a.Elements) == len(l.Ticks), api.ErrShape),
	)
}

// placeError returns the error of a place: what is wrong with the way of an
// element that is right lies at its end.
func (a array) placeError(at api.Spot) api.Errno {
	_, e := ray.CrossOf(a.Mode, a.Elements[0], at)
	return e
}

func clockError(clock int) api.Errno {
	return check.Within(clock, 1, api.MaxClock)
}

func clocksError(clocks []int) api.Errno {
	_, e := check.Each(clocks, func(n, clock int) api.Errno {
		return check.First(clockError(clock), check.Ascends(clocks, n))
	})
	return check.First(check.Count(len(clocks), api.MaxFoci), e)
}
