package cover

import (
	"iter"
	"slices"

	"couplant/api"
	"couplant/check"
)

// FirstGap returns the first gap of set-ups on a face.
func FirstGap(j api.CoverJoint, face int, l []api.CoverSetup) (api.CoverPart, api.Errno) {
	if e := check.First(faceError(j, face), setupsError(l)); e != api.OK {
		return api.CoverPart{}, e
	}
	gap, isGap := firstGap(partsOn(j, face, l))
	if !isGap {
		return api.CoverPart{}, api.ErrNone
	}
	return gap, api.OK
}

// CheckPlan accepts a plan that covers a joint; or returns the first face that
// is not covered, and its first gap.
func CheckPlan(j api.CoverJoint, l []api.CoverSetup) (int, api.CoverPart, api.Errno) {
	if e := check.First(jointError(j), setupsError(l)); e != api.OK {
		return 0, api.CoverPart{}, e
	}
	for face, parts := range partsOnAll(j, l) {
		if gap, isGap := firstGap(parts); isGap {
			return face, gap, api.ErrGap
		}
	}
	return 0, api.CoverPart{}, api.OK
}

// Fewest returns as few set-ups as possible that cover a face, and as many
// points that are apart.
func Fewest(j api.CoverJoint, face int, l []api.CoverSetup) ([]int, []api.CoverPoint, api.Errno) {
	if e := check.First(faceError(j, face), setupsError(l)); e != api.OK {
		return nil, nil, e
	}
	parts := partsOn(j, face, l)
	if _, isGap := firstGap(parts); isGap {
		return nil, nil, api.ErrGap
	}
	setups, points := fewest(parts)
	return setups, points, api.OK
}

// CheckApart accepts points that are apart, and returns how many there are.
func CheckApart(j api.CoverJoint, x api.CoverChoice, p []api.CoverPoint) (int, api.Errno) {
	e := check.First(faceError(j, x.Face), setupsError(x.Setups), pointsError(p))
	if e != api.OK {
		return 0, e
	}
	for _, met := range partsOn(j, x.Face, x.Setups) {
		if met.count(p) > 1 {
			return 0, api.ErrProof
		}
	}
	return len(p), api.OK
}

// LeastPlan returns the least set of set-ups that covers a joint.
func LeastPlan(j api.CoverJoint, l []api.CoverSetup) ([]int, api.Errno) {
	if e := check.First(jointError(j), setupsError(l)); e != api.OK {
		return nil, e
	}
	faces := partsOnAll(j, l)
	for count := range len(l) + 1 {
		for chosen := range choices(0, len(l), count) {
			if areCovered(faces, chosen) {
				return chosen, api.OK
			}
		}
	}
	return nil, api.ErrGap
}

// partsOn returns the parts of a face that set-ups meet, in the order of their
// first points.
func partsOn(j api.CoverJoint, face int, l []api.CoverSetup) []part {
	var parts []part
	for n, s := range l {
		p := partOf(j, api.CoverAsk{Face: face, Setup: s})
		p.setup = n
		if !p.isNone() {
			parts = append(parts, p)
		}
	}
	slices.SortStableFunc(parts, func(a, b part) int { return compare(a.From, b.From) })
	return parts
}

// partsOnAll returns the parts of each face.
func partsOnAll(j api.CoverJoint, l []api.CoverSetup) [][]part {
	var faces [][]part
	for face := range j.Faces {
		faces = append(faces, partsOn(j, face, l))
	}
	return faces
}

// firstGap returns the first gap of parts that stand in the order of their first
// points.
func firstGap(parts []part) (gap api.CoverPart, isGap bool) {
	reach := start
	for _, p := range parts {
		if compare(reach, p.From) < 0 {
			return api.CoverPart{From: reach, To: p.From}, true
		}
		reach = later(reach, p.To)
	}
	return api.CoverPart{From: reach, To: end}, reach != end
}

// fewest takes, of the parts that begin no later than what is taken so far ends,
// the one that goes furthest, and a point behind that end, but before any other
// part begins. So each part that has this point is one of those of which the
// next one is taken, and none of them goes as far as the next point.
func fewest(parts []part) (setups []int, points []api.CoverPoint) {
	reach, at := start, start
	for reach != end {
		begun := parts[:countBegun(parts, reach)]
		furthest := slices.MaxFunc(begun, func(a, b part) int { return compare(a.To, b.To) })
		setups = append(setups, furthest.setup)
		points = append(points, at)
		reach, at = furthest.To, end
		if next := countBegun(parts, reach); next < len(parts) {
			at = between(reach, parts[next].From)
		}
	}
	slices.Sort(setups)
	return setups, points
}

// countBegun returns how many parts begin at a point or before it.
func countBegun(parts []part, at api.CoverPoint) int {
	isBehind := func(p part) bool { return compare(p.From, at) > 0 }
	if n := slices.IndexFunc(parts, isBehind); n >= 0 {
		return n
	}
	return len(parts)
}

// choices yields each choice of so many of the numbers from first on, below an
// end, in lexicographic order.
func choices(first, below, count int) iter.Seq[[]int] {
	return func(yield func([]int) bool) {
		if count == 0 {
			yield(nil)
			return
		}
		for n := first; n < below; n++ {
			for rest := range choices(n+1, below, count-1) {
				if !yield(append([]int{n}, rest...)) {
					return
				}
			}
		}
	}
}

// areCovered returns whether chosen set-ups cover all faces.
func areCovered(faces [][]part, chosen []int) bool {
	for _, parts := range faces {
		isOut := func(p part) bool { return !slices.Contains(chosen, p.setup) }
		if _, isGap := firstGap(slices.DeleteFunc(slices.Clone(parts), isOut)); isGap {
			return false
		}
	}
	return true
}
