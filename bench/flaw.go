package bench

import (
	"iter"
	"slices"

	"couplant/api"
	"couplant/check"
	"couplant/whole"
)

// PointsOf returns the points of a flaw.
func PointsOf(f api.BenchFlaw) ([]api.BenchPoint, api.Errno) {
	if e := CheckFlaw(f); e != api.OK {
		return nil, e
	}
	return slices.Collect(points(f)), api.OK
}

// points yields the points of a flaw that is right.
func points(f api.BenchFlaw) iter.Seq[api.BenchPoint] {
	return func(yield func(api.BenchPoint) bool) {
		if f.Kind == api.BenchPore {
			yield(api.BenchPoint{At: f.From, Amplitude: f.Amplitude})
			return
		}
		for k := range f.Pieces + 1 {
			if !yield(planePoint(f, k)) {
				return
			}
		}
	}
}

// planePoint returns the point of a plane behind so many of its pieces.
func planePoint(f api.BenchFlaw, k int) api.BenchPoint {
	p := api.BenchPoint{
		At: api.Spot{
			X: f.From.X + whole.Nearest(k*(f.To.X-f.From.X), f.Pieces),
			Z: f.From.Z + whole.Nearest(k*(f.To.Z-f.From.Z), f.Pieces),
		},
		Amplitude: f.Amplitude,
	}
	if k == 0 || k == f.Pieces {
		p.Amplitude = f.Tip
	}
	return p
}

// copied returns a specimen in its own memory.
func copied(s api.BenchSpecimen) api.BenchSpecimen {
	s.Array.Elements = slices.Clone(s.Array.Elements)
	s.Pulse = slices.Clone(s.Pulse)
	s.Flaws = slices.Clone(s.Flaws)
	return s
}

// Without returns a specimen without a flaw.
func Without(s api.BenchSpecimen, flaw int) (api.BenchSpecimen, api.Errno) {
	e := check.First(specimenError(s), check.Item(flaw, len(s.Flaws)))
	if e != api.OK {
		return api.BenchSpecimen{}, e
	}
	s = copied(s)
	s.Flaws = slices.Delete(s.Flaws, flaw, flaw+1)
	return s, api.OK
}

// Moved returns a specimen whose flaws have moved along X.
func Moved(s api.BenchSpecimen, by int) (api.BenchSpecimen, api.Errno) {
	e := check.First(
		specimenError(s),
		check.Within(by, -api.MaxPlace, api.MaxPlace),
	)
	if e != api.OK {
		return api.BenchSpecimen{}, e
	}
	s = copied(s)
	for n := range s.Flaws {
		f := &s.Flaws[n]
		f.From.X += by
		// A pore has no To: it stays 0.
		if f.Kind == api.BenchPlane {
			f.To.X += by
		}
		if e := CheckFlaw(*f); e != api.OK {
			return api.BenchSpecimen{}, e
		}
	}
	return s, api.OK
}
