package bench

import (
	"couplant/api"
	"couplant/check"
	"couplant/ray"
	"couplant/trace"
)

// CheckArray returns the error of an array, and the number of the element that
// has it.
func CheckArray(a api.BenchArray) (int, api.Errno) {
	n, e := check.Elements(a.Elements)
	return n, check.First(
		e,
		ray.CheckMode(a.Out),
		ray.CheckMode(a.Back),
		check.Unless(a.Out.Thick == a.Back.Thick, api.ErrUnit),
		trace.CheckSampling(a.Times),
	)
}

// CheckFlaw returns the error of a flaw, wherever it may be.
func CheckFlaw(f api.BenchFlaw) api.Errno {
	e := check.First(
		check.Unless(f.Kind == api.BenchPore || f.Kind == api.BenchPlane, api.ErrKind),
		check.Place(f.From),
		amplitudeError(f.Amplitude),
	)
	if f.Kind == api.BenchPore {
		isBare := f.To == api.Spot{} && f.Pieces == 0 && f.Tip == 0
		return check.First(e, check.Unless(isBare, api.ErrForm))
	}
	return check.First(
		e,
		check.Place(f.To),
		check.Within(f.Pieces, 1, api.MaxBenchPieces),
		amplitudeError(f.Tip),
		check.Unless(f.To != f.From, api.ErrZero),
	)
}

// CheckSpecimen returns the error of a specimen, and the number of the element
// or of the flaw that has it.
func CheckSpecimen(s api.BenchSpecimen) (int, api.Errno) {
	if n, e := CheckArray(s.Array); e != api.OK {
		return n, e
	}
	e := check.First(
		pulseError(s.Pulse),
		check.Unless(len(s.Flaws) <= api.MaxBenchFlaws, api.ErrLarge),
	)
	if e != api.OK {
		return 0, e
	}
	return check.Each(s.Flaws, func(_ int, f api.BenchFlaw) api.Errno {
		return check.First(CheckFlaw(f), depthError(f, s.Array.Out.Thick))
	})
}

func arrayError(a api.BenchArray) api.Errno {
	_, e := CheckArray(a)
	return e
}

func specimenError(s api.BenchSpecimen) api.Errno {
	_, e := CheckSpecimen(s)
	return e
}

// placeError returns the error of a place of an array that is right.
func placeError(a api.BenchArray, at api.Spot) api.Errno {
	return check.First(check.Place(at), check.Depth(at.Z, a.Out.Thick))
}

// echoError returns the error of what an echo is asked of.
func echoError(a api.BenchArray, at api.Spot, pair [2]int) api.Errno {
	return check.First(
		arrayError(a),
		placeError(a, at),
		check.Pair(pair, len(a.Elements)),
	)
}

// depthError returns the error of a flaw that does not lie inside of a plate.
func depthError(f api.BenchFlaw, thick int) api.Errno {
	if f.Kind == api.BenchPore {
		return check.Depth(f.From.Z, thick)
	}
	return check.First(check.Depth(f.From.Z, thick), check.Depth(f.To.Z, thick))
}

func pulseError(pulse []int) api.Errno {
	_, e := check.Each(pulse, func(_, part int) api.Errno {
		return check.Within(part, -api.MaxPulsePart, api.MaxPulsePart)
	})
	return check.First(check.Count(len(pulse), api.MaxPulse), e)
}

func amplitudeError(amplitude int) api.Errno {
	return check.Within(amplitude, -api.MaxAmplitude, api.MaxAmplitude)
}

// largeError returns the error of a sample that is too large.
func largeError(_, sample int) api.Errno {
	return check.Unless(-api.MaxSample <= sample && sample <= api.MaxSample, api.ErrLarge)
}
