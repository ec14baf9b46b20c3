package focus_test

import (
	"math"
	"slices"
	"testing"

	"couplant/api"
	"couplant/focus"
)

// fires returns whether a pair's firing is one of some.
func fires(firings []int) func([2]int) bool {
	return func(pair [2]int) bool { return slices.Contains(firings, pair[0]) }
}

// P5.4

func TestShare(t *testing.T) {
	expectAlike(t, "Share", must(focus.Share(one(), []int{0})), []complex128{complex(30, -20)})
	expectAlike(t, "Share", must(focus.Share(one(), nil)), []complex128{0})
	for _, firings := range [][]int{{}, {0}, {1}, {0, 1}, {1, 0}} {
		image, _ := imageOf(two(), fires(firings))
		expectAlike(t, "Share", must(focus.Share(two(), firings)), image)
	}
	var n numbers = 4
	for range 100 {
		x := n.task()
		all := n.mixed(len(x.Array.Elements))
		firings := all[:n.from(0, len(all))]
		image, _ := imageOf(x, fires(firings))
		expectAlike(t, "Share", must(focus.Share(x, firings)), image)
	}
}

func TestShareRefuses(t *testing.T) {
	for want, x := range wrongTasks() {
		l, e := focus.Share(x, []int{-1})
		refused(t, "Share", l, e, want)
	}
	for _, x := range []struct {
		firings []int
		want    api.Errno
	}{
		{[]int{2}, api.ErrMissing}, {[]int{0, -1}, api.ErrMissing}, {[]int{huge}, api.ErrMissing}, {[]int{1, -huge - 1}, api.ErrMissing},
		{[]int{0, 0}, api.ErrDouble}, {[]int{1, 0, 1}, api.ErrDouble},
		// The first firing that is wrong decides.
		{[]int{1, 1, 2}, api.ErrDouble}, {[]int{1, 2, 1}, api.ErrMissing}, {[]int{2, 2}, api.ErrMissing},
	} {
		l, e := focus.Share(two(), x.firings)
		refused(t, "Share", l, e, x.want)
	}
}

func TestMerged(t *testing.T) {
	const most = 10000000
	for _, x := range []struct {
		l    [][]complex128
		want []complex128
	}{
		{[][]complex128{{1, complex(0, 2)}, {3, complex(-1, -2)}}, []complex128{4, -1}},
		{[][]complex128{{complex(1, -2), 3}}, []complex128{complex(1, -2), 3}},
		{[][]complex128{{}, {}}, nil},
		{[][]complex128{nil, {}}, nil},
		// Sums may be greater than a part of an image.
		{[][]complex128{{complex(most, -most)}, {complex(most, -most)}, {complex(most, -most)}}, []complex128{complex(3*most, -3*most)}},
	} {
		expectAlike(t, "Merged", must(focus.Merged(x.l)), x.want)
	}
	var l [][]complex128
	sum := make([]complex128, 1600)
	var n numbers = 5
	for range 16 {
		image := make([]complex128, 1600)
		for k := range image {
			image[k] = complex(float64(n.from(-most, most)), float64(n.from(-most, most)))
			sum[k] += image[k]
		}
		l = append(l, image)
	}
	expectAlike(t, "Merged", must(focus.Merged(l)), sum)
}

func TestMergedRefuses(t *testing.T) {
	nan, far := math.NaN(), math.Inf(1)
	const over = 10000001
	many := make([][]complex128, 17)
	for k := range many {
		many[k] = []complex128{1}
	}
	for _, x := range []struct {
		l    [][]complex128
		want api.Errno
	}{
		{nil, api.ErrShape},
		{[][]complex128{}, api.ErrShape},
		{[][]complex128{{1}, {1, 2}}, api.ErrShape},
		{[][]complex128{{1, 2}, {1}}, api.ErrShape},
		{[][]complex128{{1}, {1}, {}}, api.ErrShape},
		{many, api.ErrLarge},
		{append(many[:16:16], nil), api.ErrShape},
		{[][]complex128{make([]complex128, 1601)}, api.ErrLarge},
		{[][]complex128{make([]complex128, 1601), make([]complex128, 1600)}, api.ErrShape},
		{[][]complex128{{complex(nan, 0)}}, api.ErrWhole},
		{[][]complex128{{complex(0, nan)}}, api.ErrWhole},
		{[][]complex128{{complex(far, 0)}}, api.ErrWhole},
		{[][]complex128{{complex(0, -far)}}, api.ErrWhole},
		{[][]complex128{{0.5}}, api.ErrWhole},
		{[][]complex128{{complex(1, -0.25)}}, api.ErrWhole},
		{[][]complex128{{over}}, api.ErrRange},
		{[][]complex128{{-over}}, api.ErrRange},
		{[][]complex128{{complex(0, over)}}, api.ErrRange},
		{[][]complex128{{complex(0, -over)}}, api.ErrRange},
		{[][]complex128{{1e300}}, api.ErrRange},
		// A value that is not whole is so ahead of a part that is too great.
		{[][]complex128{{complex(over, 0.5)}}, api.ErrWhole},
		{[][]complex128{{complex(over+0.5, 1)}}, api.ErrWhole},
		// Value by value, image by image.
		{[][]complex128{{1, 0.5}, {over, 1}}, api.ErrRange},
		{[][]complex128{{1, over}, {0.5, 1}}, api.ErrWhole},
		{[][]complex128{{over, 1}, {0.5, 1}}, api.ErrRange},
		{[][]complex128{{0.5, 1}, {over, 1}}, api.ErrWhole},
		{[][]complex128{{0.5, 1}, {over}}, api.ErrShape},
	} {
		l, e := focus.Merged(x.l)
		refused(t, "Merged", l, e, x.want)
	}
}

// deal returns the numbers below count, dealt out.
func (n *numbers) deal(count int) [][]int {
	deal := make([][]int, n.from(1, 16))
	for _, f := range n.mixed(count) {
		k := n.from(0, len(deal)-1)
		deal[k] = append(deal[k], f)
	}
	return deal
}

func TestDealt(t *testing.T) {
	expectAlike(t, "Dealt", must(focus.Dealt(one(), [][]int{{}, {0}})), []complex128{complex(30, -20)})
	image, _ := imageOf(two(), every)
	// Two workers with the firings 1, 0 and none make the same image as one.
	for _, deal := range [][][]int{{{0, 1}}, {{1, 0}, {}}, {{0}, {1}}, {nil, {1}, {0}}} {
		expectAlike(t, "Dealt", must(focus.Dealt(two(), deal)), image)
	}
}

func TestDealtRefuses(t *testing.T) {
	for want, x := range wrongTasks() {
		l, e := focus.Dealt(x, [][]int{{5}})
		refused(t, "Dealt", l, e, want)
	}
	for _, x := range []struct {
		deal [][]int
		want api.Errno
	}{
		{nil, api.ErrGap}, {[][]int{{1}}, api.ErrGap}, {[][]int{{0}, {0, 1}}, api.ErrDouble}, {[][]int{{0, 1, 2}}, api.ErrMissing},
		{make([][]int, 17), api.ErrLarge},
	} {
		l, e := focus.Dealt(two(), x.deal)
		refused(t, "Dealt", l, e, x.want)
	}
}
