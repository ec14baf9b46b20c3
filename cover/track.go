package cover

import (
	"cmp"
	"slices"

	"couplant/api"
	"couplant/check"
)

// Scanned returns the longest ranges of positions of a track that are surely
// scanned.
func Scanned(t api.CoverTrack, readings []int) ([]api.Range, api.Errno) {
	if e := check.First(CheckTrack(t), readingsError(readings)); e != api.OK {
		return nil, e
	}
	return scanned(t, readings), api.OK
}

// Anew returns the longest ranges of positions of a track that must be scanned
// anew.
func Anew(t api.CoverTrack, readings []int) ([]api.Range, api.Errno) {
	if e := check.First(CheckTrack(t), readingsError(readings)); e != api.OK {
		return nil, e
	}
	var anew []api.Range
	next := t.From
	for _, r := range scanned(t, readings) {
		if next < r.Lo {
			anew = append(anew, api.Range{Lo: next, Hi: r.Lo - 1})
		}
		next = r.Hi + 1
	}
	if next <= t.To {
		anew = append(anew, api.Range{Lo: next, Hi: t.To})
	}
	return anew, api.OK
}

// scanned joins what the readings scan, where no position lies between.
func scanned(t api.CoverTrack, readings []int) []api.Range {
	var joined []api.Range
	for _, r := range scans(t, readings) {
		if n := len(joined); n > 0 && r.Lo <= joined[n-1].Hi+1 {
			joined[n-1].Hi = max(joined[n-1].Hi, r.Hi)
		} else {
			joined = append(joined, r)
		}
	}
	return joined
}

// scans returns the positions of a track that each reading scans, if there are
// any, in the order of the first ones.
func scans(t api.CoverTrack, readings []int) []api.Range {
	var l []api.Range
	for _, p := range readings {
		r := api.Range{
			Lo: max(t.From, p+t.Slip-t.Reach),
			Hi: min(t.To, p-t.Slip+t.Reach),
		}
		if r.Lo <= r.Hi {
			l = append(l, r)
		}
	}
	slices.SortFunc(l, func(a, b api.Range) int { return cmp.Compare(a.Lo, b.Lo) })
	return l
}
