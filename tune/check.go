package tune

import (
	"couplant/api"
	"couplant/check"
)

// CheckTable returns the error of a table, and the number of the row that has
// it.
func CheckTable(l []api.TuneRow) (int, api.Errno) {
	if e := check.Count(len(l), api.MaxTuneRows); e != api.OK {
		return 0, e
	}
	return check.Each(l, func(n int, r api.TuneRow) api.Errno {
		return check.First(
			check.Within(r.Depth, 0, api.MaxPlace),
			echoError(r.Echo),
			check.Unless(n == 0 || l[n-1].Depth < r.Depth, api.ErrOrder),
		)
	})
}

// CheckArcs returns the error of arcs, and the number of the one that has it.
func CheckArcs(l []api.TuneArc) (int, api.Errno) {
	e := check.First(
		check.Unless(len(l) >= 2, api.ErrShape),
		check.Unless(len(l) <= api.MaxTuneArcs, api.ErrLarge),
	)
	if e != api.OK {
		return 0, e
	}
	return check.Each(l, func(n int, a api.TuneArc) api.Errno {
		return check.First(
			check.Within(a.Radius, 1, api.MaxPlace),
			check.Range(a.Time, 0, api.MaxTime),
			check.Unless(n == 0 || l[n-1].Radius < a.Radius, api.ErrOrder),
		)
	})
}

// CheckSteps returns the error of the steps of a procedure, and the number of
// the one that has it.
func CheckSteps(l []api.TuneStep) (int, api.Errno) {
	if e := check.Count(len(l), api.MaxTuneSteps); e != api.OK {
		return 0, e
	}
	return check.Each(l, func(n int, s api.TuneStep) api.Errno {
		return check.First(
			check.Name(s.Name),
			check.Fresh(l, n, stepName),
			check.Within(s.Lasts, 1, api.MaxTuneLasts),
			check.Within(s.Warm, 0, api.MaxTuneWarm),
			check.Numbers(s.Needs, n),
		)
	})
}

func stepName(s api.TuneStep) string { return s.Name }

// CheckEvents returns the error of the steps of a procedure or of events, and
// the number of the event that has it.
func CheckEvents(l []api.TuneStep, events []api.TuneEvent) (int, api.Errno) {
	_, e := CheckSteps(l)
	e = check.First(e, check.Unless(len(events) <= api.MaxTuneEvents, api.ErrLarge))
	if e != api.OK {
		return 0, e
	}
	return check.Each(events, func(n int, x api.TuneEvent) api.Errno {
		if e := eventError(x, events[:n], len(l)); e != api.OK {
			return e
		}
		return record{l, events[:n]}.stateError(x)
	})
}

// eventError returns the error of an event behind others, of so many steps,
// whatever is valid then.
func eventError(x api.TuneEvent, before []api.TuneEvent, steps int) api.Errno {
	return check.First(
		check.Within(x.Minute, 0, api.MaxMinute),
		check.Unless(x.Step == reading || check.Item(x.Step, steps) == api.OK, api.ErrMissing),
		check.Within(x.Warmth, -api.MaxTuneWarm, api.MaxTuneWarm),
		orderError(before, x.Minute),
	)
}

// orderError returns ErrOrder for a minute that is less than that of the last
// event.
func orderError(events []api.TuneEvent, minute int) api.Errno {
	n := len(events)
	return check.Unless(n == 0 || events[n-1].Minute <= minute, api.ErrOrder)
}

func tableError(l []api.TuneRow) api.Errno {
	_, e := CheckTable(l)
	return e
}

// depthError returns the error of a table and of a depth in it.
func depthError(l []api.TuneRow, depth int) api.Errno {
	if e := check.First(tableError(l), check.Within(depth, 0, api.MaxPlace)); e != api.OK {
		return e
	}
	return check.Unless(l[0].Depth <= depth && depth <= l[len(l)-1].Depth, api.ErrNone)
}

func echoError(echo int) api.Errno {
	return check.Within(echo, 1, api.MaxTuneEcho)
}

// echoesError returns the error of the echoes of elements.
func echoesError(l []int) api.Errno {
	if len(l) > api.MaxElements {
		return api.ErrLarge
	}
	_, e := check.Each(l, func(_, echo int) api.Errno {
		return check.Within(echo, 0, api.MaxTuneEcho)
	})
	return e
}

func arcsError(l []api.TuneArc) api.Errno {
	_, e := CheckArcs(l)
	return e
}

func eventsError(l []api.TuneStep, events []api.TuneEvent) api.Errno {
	_, e := CheckEvents(l, events)
	return e
}

// minuteError returns the error of a procedure with its events, and of a minute
// behind them.
func minuteError(l []api.TuneStep, events []api.TuneEvent, minute int) api.Errno {
	return check.First(
		eventsError(l, events),
		check.Within(minute, 0, api.MaxMinute),
		orderError(events, minute),
	)
}
