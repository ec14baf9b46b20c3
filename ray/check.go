package ray

import "couplant/api"

// firstError returns the first of several errors, OK if there is none.
func firstError(errors ...api.Errno) api.Errno {
	for _, e := range errors {
		if e != api.OK {
			return e
		}
	}
	return api.OK
}

// unless returns an error where something does not hold.
func unless(holds bool, e api.Errno) api.Errno {
	if holds {
		return api.OK
	}
	return e
}

func isWithin(n, least, most int) bool {
	return least <= n && n <= most
}

func placeError(p api.Spot) api.Errno {
	return firstError(
		unless(isWithin(p.X, -api.MaxPlace, api.MaxPlace), api.ErrRange),
		unless(isWithin(p.Z, -api.MaxPlace, api.MaxPlace), api.ErrRange),
	)
}

func speedError(v int) api.Errno {
	return unless(isWithin(v, api.LeastSpeed, api.MaxSpeed), api.ErrRange)
}

func thickError(thick int) api.Errno {
	return unless(isWithin(thick, 2, api.MaxRayThick), api.ErrRange)
}

// depthError returns ErrBreak for a depth that is not inside of a plate.
func depthError(z, thick int) api.Errno {
	return unless(0 < z && z < thick, api.ErrBreak)
}

// wayError returns the error of a way of a mode that is right.
func wayError(m api.RayMode, from, to api.Spot) api.Errno {
	return firstError(
		placeError(from),
		placeError(to),
		unless(from.Z < 0, api.ErrKind),
		depthError(to.Z, m.Thick),
	)
}

func directionError(direction [2]int) api.Errno {
	return firstError(
		unless(isWithin(direction[0], -api.MaxDirection, api.MaxDirection), api.ErrRange),
		unless(isWithin(direction[1], 1, api.MaxDirection), api.ErrRange),
	)
}

// steepError returns the error of a limit of steepness. It accepts any
// numbers: what is too large may not overflow here.
func steepError(f api.Frac) api.Errno {
	if f.Den <= 0 || commonDivisor(f.Num, f.Den) != 1 {
		return api.ErrForm
	}
	return unless(isWithin(f.Num, 0, api.MaxPart) && f.Den <= api.MaxPart, api.ErrRange)
}
