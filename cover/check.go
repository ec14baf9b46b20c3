package cover

import (
	"couplant/api"
	"couplant/check"
)

// CheckJoint returns the error of a joint, and the number of the face that has
// it.
func CheckJoint(j api.CoverJoint) (int, api.Errno) {
	e := check.First(
		check.Name(j.Name),
		thickError(j.Thick),
		sizeError(j.Zone),
		check.Unless(len(j.Faces) <= api.MaxCoverFaces, api.ErrLarge),
	)
	if e != api.OK {
		return 0, e
	}
	return check.Each(j.Faces, func(n int, f api.CoverFace) api.Errno {
		places := placeErrors(f, j.Thick)
		return check.First(
			check.Name(f.Name),
			check.Fresh(j.Faces, n, faceName),
			check.First(places[:]...),
			lengthError(f),
		)
	})
}

// CheckSetup returns the error of a set-up.
func CheckSetup(s api.CoverSetup) api.Errno {
	return check.First(
		check.Name(s.Name),
		acrossError(s.At),
		check.Unless(s.Side == 1 || s.Side == -1, api.ErrKind),
		check.Unless(s.Legs == 1 || s.Legs == 2, api.ErrKind),
		tangentError(s.Least),
		tangentError(s.Most),
		tangentError(s.Tilt),
		check.Unless(s.Least.Num*s.Most.Den <= s.Most.Num*s.Least.Den, api.ErrOrder),
	)
}

// CheckTrack returns the error of a track.
func CheckTrack(t api.CoverTrack) api.Errno {
	return check.First(
		check.Within(t.From, 0, api.MaxCoverPosition),
		check.Within(t.To, 0, api.MaxCoverPosition),
		check.Within(t.Slip, 0, api.MaxCoverPosition),
		check.Within(t.Reach, 0, api.MaxCoverPosition),
		check.Unless(t.From <= t.To, api.ErrOrder),
	)
}

func faceName(f api.CoverFace) string { return f.Name }

func setupName(s api.CoverSetup) string { return s.Name }

func thickError(thick int) api.Errno {
	return check.Within(thick, 1, api.MaxCoverPlace)
}

// sizeError returns the error of a length that may be 0.
func sizeError(n int) api.Errno {
	return check.Within(n, 0, api.MaxCoverPlace)
}

// acrossError returns the error of a place along the surface.
func acrossError(x int) api.Errno {
	return check.Within(x, -api.MaxCoverPlace, api.MaxCoverPlace)
}

func tangentError(f api.Frac) api.Errno {
	return check.Ratio(f, api.MaxCoverTangent)
}

// placeErrors returns the error of each number of the places of a face, in
// their order.
func placeErrors(f api.CoverFace, thick int) [4]api.Errno {
	return [...]api.Errno{
		acrossError(f.From.X),
		check.Within(f.From.Z, 0, thick),
		acrossError(f.To.X),
		check.Within(f.To.Z, 0, thick),
	}
}

// lengthError returns ErrZero for a face without length.
func lengthError(f api.CoverFace) api.Errno {
	return check.Unless(f.From != f.To, api.ErrZero)
}

func jointError(j api.CoverJoint) api.Errno {
	_, e := CheckJoint(j)
	return e
}

// faceError returns the error of a joint, and of a face of it.
func faceError(j api.CoverJoint, face int) api.Errno {
	return check.First(jointError(j), check.Item(face, len(j.Faces)))
}

// askError returns the error of a joint, and of an ask of it.
func askError(j api.CoverJoint, x api.CoverAsk) api.Errno {
	return check.First(faceError(j, x.Face), CheckSetup(x.Setup))
}

func pointError(p api.CoverPoint) api.Errno {
	return check.First(
		check.Lowest(api.Frac(p)),
		check.Within(p.Num, 0, p.Den),
		check.Within(p.Den, 1, api.MaxCoverDen),
	)
}

func setupsError(l []api.CoverSetup) api.Errno {
	if len(l) > api.MaxCoverSetups {
		return api.ErrLarge
	}
	_, e := check.Each(l, func(n int, s api.CoverSetup) api.Errno {
		return check.First(CheckSetup(s), check.Fresh(l, n, setupName))
	})
	return e
}

// pointsError returns the error of points that are to ascend.
func pointsError(l []api.CoverPoint) api.Errno {
	if len(l) > api.MaxCoverSetups {
		return api.ErrLarge
	}
	_, e := check.Each(l, func(n int, p api.CoverPoint) api.Errno {
		if e := pointError(p); e != api.OK {
			return e
		}
		return check.Unless(n == 0 || compare(l[n-1], p) < 0, api.ErrOrder)
	})
	return e
}

func readingsError(l []int) api.Errno {
	if len(l) > api.MaxCoverReadings {
		return api.ErrLarge
	}
	_, e := check.Each(l, func(_, reading int) api.Errno {
		return check.Within(reading, -2*api.MaxCoverPosition, 2*api.MaxCoverPosition)
	})
	return e
}
