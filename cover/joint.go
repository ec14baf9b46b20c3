package cover

import (
	"slices"

	"couplant/api"
	"couplant/check"
	"couplant/whole"
)

// Bevelled returns the joint with a V.
func Bevelled(b api.CoverBevel) (api.CoverJoint, api.Errno) {
	e := check.First(
		check.Name(b.Name),
		thickError(b.Thick),
		sizeError(b.Zone),
		sizeError(b.HalfGap),
		check.Within(b.Land, 0, b.Thick),
		tangentError(b.Tangent),
	)
	if e != api.OK {
		return api.CoverJoint{}, e
	}
	j := api.CoverJoint{Name: b.Name, Thick: b.Thick, Zone: b.Zone}
	top := b.HalfGap + whole.DivideDown((b.Thick-b.Land)*b.Tangent.Num, b.Tangent.Den)
	if top > api.MaxCoverPlace {
		return api.CoverJoint{}, api.ErrLarge
	}
	j.Faces = slices.Concat(bevelFaces("l-", b, -1, top), bevelFaces("r-", b, 1, top))
	return j, api.OK
}

// bevelFaces returns the faces of one side of a bevelled joint, which is so far
// from the middle at the surface.
func bevelFaces(name string, b api.CoverBevel, side, top int) []api.CoverFace {
	root := api.Spot{X: side * b.HalfGap, Z: b.Thick}
	edge := api.Spot{X: root.X, Z: b.Thick - b.Land}
	var faces []api.CoverFace
	if b.Land > 0 {
		faces = append(faces, api.CoverFace{Name: name + "land", From: root, To: edge})
	}
	if b.Land < b.Thick {
		faces = append(faces, api.CoverFace{Name: name + "bevel", From: edge, To: api.Spot{X: side * top}})
	}
	return faces
}

// SpotAt returns the place of a point of a face.
func SpotAt(j api.CoverJoint, face int, p api.CoverPoint) (api.Spot, api.Errno) {
	if e := check.First(faceError(j, face), pointError(p)); e != api.OK {
		return api.Spot{}, e
	}
	f := j.Faces[face]
	way := wayTo(f.From, f.To)
	return api.Spot{
		X: f.From.X + whole.Nearest(p.Num*way.X, p.Den),
		Z: f.From.Z + whole.Nearest(p.Num*way.Z, p.Den),
	}, api.OK
}

// InZone returns whether a place is in the zone of a joint.
func InZone(j api.CoverJoint, p api.Spot) (bool, api.Errno) {
	if e := check.First(jointError(j), check.Place(p)); e != api.OK {
		return false, e
	}
	isInside := 0 <= p.Z && p.Z <= j.Thick
	hasNear := slices.ContainsFunc(j.Faces, func(f api.CoverFace) bool {
		return isNear(f, p, j.Zone)
	})
	return isInside && hasNear, api.OK
}

// isNear returns whether a place is at most so far from a face: from the end
// that it lies beyond, or else from its line. The square of the product of ways
// might not fit into a word.
func isNear(f api.CoverFace, p api.Spot, zone int) bool {
	way, fromStart, fromEnd := wayTo(f.From, f.To), wayTo(f.From, p), wayTo(f.To, p)
	switch {
	case dot(way, fromStart) <= 0:
		return dot(fromStart, fromStart) <= zone*zone
	case dot(way, fromEnd) >= 0:
		return dot(fromEnd, fromEnd) <= zone*zone
	}
	most := whole.RootDown(zone * zone * dot(way, way))
	return whole.SizeOf(cross(way, fromStart)) <= uint(most)
}

func wayTo(from, to api.Spot) api.Spot {
	return api.Spot{X: to.X - from.X, Z: to.Z - from.Z}
}

// dot returns how far two ways go along each other, cross how far upright to
// each other.
func dot(a, b api.Spot) int { return a.X*b.X + a.Z*b.Z }

func cross(a, b api.Spot) int { return a.X*b.Z - a.Z*b.X }
