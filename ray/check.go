package ray

import (
	"couplant/api"
	"couplant/check"
)

func thickError(thick int) api.Errno {
	return check.Within(thick, 2, api.MaxRayThick)
}

// wayError returns the error of a way of a mode that is right.
func wayError(m api.RayMode, from, to api.Spot) api.Errno {
	return check.First(
		check.Place(from),
		check.Place(to),
		check.Unless(from.Z < 0, api.ErrKind),
		check.Depth(to.Z, m.Thick),
	)
}

func directionError(direction [2]int) api.Errno {
	return check.First(
		check.Within(direction[0], -api.MaxDirection, api.MaxDirection),
		check.Within(direction[1], 1, api.MaxDirection),
	)
}
