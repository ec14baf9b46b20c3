package cover_test

import (
	"fmt"
	"slices"
	"testing"

	"couplant/api"
	"couplant/cover"
)

// P7.5

// example is the track of the chapter's example.
func example() api.CoverTrack {
	return api.CoverTrack{From: 0, To: 100, Slip: 2, Reach: 10}
}

func TestCheckTrack(t *testing.T) {
	for _, x := range []struct {
		track api.CoverTrack
		want  api.Errno
	}{
		{example(), api.OK},
		{api.CoverTrack{}, api.OK},
		{api.CoverTrack{From: 1000000, To: 1000000, Slip: 1000000, Reach: 1000000}, api.OK},
		{api.CoverTrack{From: 0, To: 1000000, Slip: 5}, api.OK},
		{api.CoverTrack{From: -1, To: 5}, api.ErrRange},
		{api.CoverTrack{From: 1000001, To: 5}, api.ErrRange},
		{api.CoverTrack{To: 1000001}, api.ErrRange},
		{api.CoverTrack{From: 5, To: -1}, api.ErrRange},
		{api.CoverTrack{Slip: -1}, api.ErrRange},
		{api.CoverTrack{Slip: 1000001}, api.ErrRange},
		{api.CoverTrack{Reach: -1}, api.ErrRange},
		{api.CoverTrack{Reach: 1000001}, api.ErrRange},
		{api.CoverTrack{From: 5, To: 4, Reach: huge}, api.ErrRange},
		{api.CoverTrack{From: -huge - 1, To: huge, Slip: huge, Reach: -huge - 1}, api.ErrRange},
		{api.CoverTrack{From: 5, To: 4}, api.ErrOrder},
		{api.CoverTrack{From: 1000000}, api.ErrOrder},
	} {
		e := cover.CheckTrack(x.track)
		expect(t, fmt.Sprint("CheckTrack of ", x.track), 0, e, 0, x.want)
	}
}

// ranges returns ranges, told by their ends.
func ranges(ends ...int) []api.Range {
	var l []api.Range
	for pair := range slices.Chunk(ends, 2) {
		l = append(l, api.Range{Lo: pair[0], Hi: pair[1]})
	}
	return l
}

func TestScannedAndAnew(t *testing.T) {
	for _, x := range []struct {
		track    api.CoverTrack
		readings []int
		scanned  []api.Range
		anew     []api.Range
	}{
		{example(), []int{20, 38}, ranges(12, 28, 30, 46), ranges(0, 11, 29, 29, 47, 100)},
		{example(), []int{38, 20}, ranges(12, 28, 30, 46), ranges(0, 11, 29, 29, 47, 100)},
		{example(), []int{20}, ranges(12, 28), ranges(0, 11, 29, 100)},
		{example(), nil, nil, ranges(0, 100)},
		{example(), []int{}, nil, ranges(0, 100)},
		// Ranges without a position between them are one, and so are those that
		// overlap, or lie in each other.
		{example(), []int{20, 37}, ranges(12, 45), ranges(0, 11, 46, 100)},
		{example(), []int{37, 20, 25}, ranges(12, 45), ranges(0, 11, 46, 100)},
		{example(), []int{20, 20}, ranges(12, 28), ranges(0, 11, 29, 100)},
		// What lies outside of the track does not count.
		{example(), []int{0, 100}, ranges(0, 8, 92, 100), ranges(9, 91)},
		{example(), []int{-8, 108}, ranges(0, 0, 100, 100), ranges(1, 99)},
		{example(), []int{-9, 109}, nil, ranges(0, 100)},
		{example(), []int{-2000000, 2000000}, nil, ranges(0, 100)},
		{api.CoverTrack{From: 15, To: 26, Slip: 2, Reach: 10}, []int{20}, ranges(15, 26), nil},
		{api.CoverTrack{From: 20, To: 20, Slip: 2, Reach: 10}, []int{28}, ranges(20, 20), nil},
		{api.CoverTrack{From: 20, To: 20, Slip: 2, Reach: 10}, []int{29, 11}, nil, ranges(20, 20)},
		// More exactly: with Slip being Reach a reading scans one position, with a
		// greater Slip none.
		{api.CoverTrack{To: 9, Slip: 3, Reach: 3}, []int{5, 7, 8}, ranges(5, 5, 7, 8), ranges(0, 4, 6, 6, 9, 9)},
		{api.CoverTrack{To: 9}, []int{0, 9}, ranges(0, 0, 9, 9), ranges(1, 8)},
		{api.CoverTrack{To: 9, Slip: 4, Reach: 3}, []int{5}, nil, ranges(0, 9)},
		{api.CoverTrack{To: 9, Slip: 1000000}, []int{5, 0, 2000000}, nil, ranges(0, 9)},
		{api.CoverTrack{To: 1000000, Reach: 1000000}, []int{2000000, -999999}, ranges(0, 1, 1000000, 1000000), ranges(2, 999999)},
	} {
		what := fmt.Sprint(" of ", x.track, x.readings)
		expectAlike(t, "Scanned"+what, must(cover.Scanned(x.track, x.readings)), x.scanned)
		expectAlike(t, "Anew"+what, must(cover.Anew(x.track, x.readings)), x.anew)
	}
}

func TestErrorsOfReadings(t *testing.T) {
	for _, x := range []struct {
		track    api.CoverTrack
		readings []int
		want     api.Errno
	}{
		{api.CoverTrack{To: -1}, make([]int, 201), api.ErrRange},
		{api.CoverTrack{From: 2, To: 1}, make([]int, 201), api.ErrOrder},
		{api.CoverTrack{From: 2, To: 1}, []int{huge}, api.ErrOrder},
		{example(), make([]int, 201), api.ErrLarge},
		{example(), append(make([]int, 200), huge), api.ErrLarge},
		{example(), []int{0, 2000001}, api.ErrRange},
		{example(), []int{-2000001}, api.ErrRange},
		{example(), []int{huge}, api.ErrRange},
		{example(), []int{5, -huge - 1}, api.ErrRange},
	} {
		l, e := cover.Scanned(x.track, x.readings)
		refused(t, "Scanned", l, e, x.want)
		l, e = cover.Anew(x.track, x.readings)
		refused(t, "Anew", l, e, x.want)
	}
	expectAlike(t, "Scanned of 200 readings", must(cover.Scanned(example(), make([]int, 200))), ranges(0, 8))
}

// positions returns the ranges of the positions of a track that are as is asked.
func positions(track api.CoverTrack, isAsked func(p int) bool) []api.Range {
	var l []api.Range
	for p := track.From; p <= track.To; p++ {
		if !isAsked(p) {
			continue
		}
		if last := len(l) - 1; last >= 0 && l[last].Hi == p-1 {
			l[last].Hi = p
		} else {
			l = append(l, api.Range{Lo: p, Hi: p})
		}
	}
	return l
}

// isSure returns whether the probe saw a position wherever it stood at a reading.
func isSure(track api.CoverTrack, reading, position int) bool {
	for at := reading - track.Slip; at <= reading+track.Slip; at++ {
		if position < at-track.Reach || at+track.Reach < position {
			return false
		}
	}
	return true
}

// P7.11, of tracks: each position is surely scanned or must be scanned anew, and
// more readings leave no more to be scanned anew.
func TestTracksAreAsDefined(t *testing.T) {
	var n numbers = 13
	for range 2000 {
		track := api.CoverTrack{From: n.from(0, 50), To: n.from(50, 120), Slip: n.from(0, 6), Reach: n.from(0, 12)}
		var readings []int
		var before map[int]bool
		for range n.from(0, 9) {
			isScanned := func(p int) bool {
				return slices.ContainsFunc(readings, func(r int) bool { return isSure(track, r, p) })
			}
			scanned := must(cover.Scanned(track, readings))
			anew := must(cover.Anew(track, readings))
			expectAlike(t, "Scanned", scanned, positions(track, isScanned))
			expectAlike(t, "Anew", anew, positions(track, func(p int) bool { return !isScanned(p) }))
			have := map[int]bool{}
			for _, r := range anew {
				for p := r.Lo; p <= r.Hi; p++ {
					have[p] = true
					if before != nil && !before[p] {
						t.Errorf("%v of %v: %d must be scanned anew behind one reading more", readings, track, p)
					}
				}
			}
			before = have
			readings = slices.Insert(readings, n.from(0, len(readings)), n.from(-20, 140))
		}
	}
}
