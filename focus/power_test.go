package focus_test

import (
	"math"
	"testing"

	"couplant/api"
	"couplant/focus"
)

// P5.5

func TestPowers(t *testing.T) {
	const most = 10000000
	image := []complex128{complex(30, -20), 0, -3, complex(0, 4), complex(most, -most), complex(-most, most), most - 1}
	expectAlike(t, "Powers", must(focus.Powers(image)), []int{1300, 0, 9, 16, 2 * most * most, 2 * most * most, 99999980000001})
	expectAlike(t, "Powers", must(focus.Powers(nil)), nil)
	expectAlike(t, "Powers", must(focus.Powers(make([]complex128, 1600))), make([]int, 1600))
	for _, x := range []struct {
		image []complex128
		want  api.Errno
	}{
		{make([]complex128, 1601), api.ErrLarge},
		{append(make([]complex128, 1600), 0.5), api.ErrLarge},
		{[]complex128{1, 0.5}, api.ErrWhole},
		{[]complex128{complex(0, math.NaN())}, api.ErrWhole},
		{[]complex128{complex(math.Inf(-1), 0)}, api.ErrWhole},
		{[]complex128{1, complex(0, most+1)}, api.ErrRange},
		{[]complex128{-most - 1}, api.ErrRange},
		{[]complex128{most + 0.5}, api.ErrWhole},
		{[]complex128{complex(most+1, 0.5)}, api.ErrWhole},
		{[]complex128{most + 1, 0.5}, api.ErrRange},
		{[]complex128{0.5, most + 1}, api.ErrWhole},
	} {
		l, e := focus.Powers(x.image)
		refused(t, "Powers", l, e, x.want)
	}
}

// peaksOf returns the peaks, by definition.
func peaksOf(g api.FocusGrid, powers []int) (l []int) {
	at := func(cell int) (column, row int) { return cell % g.Columns, cell / g.Columns }
	for cell, power := range powers {
		isPeak := power > 0
		for other, p := range powers {
			c, r := at(cell)
			d, s := at(other)
			isNear := other != cell && max(c-d, d-c) <= 1 && max(r-s, s-r) <= 1
			if isNear && (p > power || p == power && other < cell) {
				isPeak = false
			}
		}
		if isPeak {
			l = append(l, cell)
		}
	}
	return l
}

func TestPeaks(t *testing.T) {
	for _, x := range []struct {
		columns int
		powers  []int
		peak    int
		peaks   []int
	}{
		{4, []int{1, 5, 5, 2}, 1, []int{1}},
		{3, []int{5, 1, 5}, 0, []int{0, 2}},
		{3, []int{5, 5, 7}, 2, []int{0, 2}},
		{1, []int{5, 5, 7}, 2, []int{0, 2}},
		{1, []int{1}, 0, []int{0}},
		{1, []int{1000000000000000}, 0, []int{0}},
		{2, []int{0, 1, 0, 0}, 1, []int{1}},
		// Neighbours are those over corners, too.
		{2, []int{5, 1, 2, 5}, 0, []int{0}},
		{2, []int{1, 5, 5, 2}, 1, []int{1}},
		{2, []int{5, 1, 2, 6}, 3, []int{3}},
		{3, []int{1, 1, 2, 1, 1, 1, 1, 1, 1}, 2, []int{0, 2}},
		// The end of a row is not beside the beginning of the next one.
		{3, []int{0, 0, 5, 5, 0, 0}, 2, []int{2, 3}},
		{3, []int{0, 0, 5, 6, 0, 0}, 3, []int{2, 3}},
		// A plateau that goes round a corner has several peaks.
		{3, []int{9, 9, 3, 3, 3, 9, 9, 9, 9}, 0, []int{0, 6}},
		{3, []int{0, 0, 9, 9, 9, 0, 0, 0, 0}, 2, []int{2, 3}},
		{2, []int{0, 7, 7, 0, 0, 7}, 1, []int{1}},
	} {
		g := flat(x.columns, len(x.powers)/x.columns)
		expectAlike(t, "Peak", must(focus.Peak(g, x.powers)), x.peak)
		expectAlike(t, "the peaks by definition", peaksOf(g, x.powers), x.peaks)
		expectAlike(t, "Peaks", must(focus.Peaks(g, x.powers)), x.peaks)
	}
	expectAlike(t, "Peaks", must(focus.Peaks(flat(3, 2), make([]int, 6))), nil)
	n, e := focus.Peak(flat(3, 2), make([]int, 6))
	refused(t, "Peak", n, e, api.ErrNone)
}

// powered returns a grid and the powers of its cells, many of them equal.
func (n *numbers) powered() (api.FocusGrid, []int) {
	g := flat(n.from(1, 7), n.from(1, 7))
	return g, n.list(g.Columns*g.Rows, 0, n.from(1, 4))
}

func TestPeaksByDefinition(t *testing.T) {
	var n numbers = 6
	for range 500 {
		g, powers := n.powered()
		expectAlike(t, "Peaks", must(focus.Peaks(g, powers)), peaksOf(g, powers))
	}
}

func TestAbove(t *testing.T) {
	g := flat(4, 1)
	for level, want := range map[int][]int{
		0: {0, 1, 2, 3}, 1: {0, 1, 2}, 2: {1, 2}, 5: {1, 2}, 6: nil, 1000000000000001: nil, huge: nil,
	} {
		expectAlike(t, "Above", must(focus.Above(g, []int{1, 5, 5, 0}, level)), want)
	}
	for _, level := range []int{-1, -huge - 1} {
		l, e := focus.Above(g, []int{1, 5, 5, 0}, level)
		refused(t, "Above", l, e, api.ErrRange)
	}
}

// dropOf returns the reach of a drop, by definition: the greatest one of all
// around its cell in which all powers are great enough.
func dropOf(g api.FocusGrid, powers []int, x api.FocusDrop) (reach api.Range) {
	at, count := x.Cell%g.Columns, g.Columns
	cellAt := func(n int) int { return x.Cell - at + n }
	if x.Down {
		at, count = x.Cell/g.Columns, g.Rows
		cellAt = func(n int) int { return n*g.Columns + x.Cell%g.Columns }
	}
	reach = api.Range{Lo: at, Hi: at}
	for lo := 0; lo <= at; lo++ {
		for hi := at; hi < count; hi++ {
			isReach := true
			for n := lo; n <= hi; n++ {
				isReach = isReach && powers[cellAt(n)]*x.Den >= powers[x.Cell]*x.Num
			}
			if isReach && hi-lo > reach.Hi-reach.Lo {
				reach = api.Range{Lo: lo, Hi: hi}
			}
		}
	}
	return reach
}

func TestDropOf(t *testing.T) {
	const most = 1000000000000000
	row := flat(4, 1)
	for _, x := range []struct {
		g      api.FocusGrid
		powers []int
		drop   api.FocusDrop
		want   api.Range
	}{
		{row, []int{2, 8, 3, 1}, api.FocusDrop{Cell: 1, Num: 1, Den: 4}, api.Range{Lo: 0, Hi: 2}},
		{row, []int{1, 8, 3, 2}, api.FocusDrop{Cell: 1, Num: 1, Den: 4}, api.Range{Lo: 1, Hi: 3}},
		{row, []int{2, 8, 3, 1}, api.FocusDrop{Cell: 1, Num: 1, Den: 8}, api.Range{Lo: 0, Hi: 3}},
		{row, []int{2, 8, 3, 1}, api.FocusDrop{Cell: 1, Num: 1, Den: 1}, api.Range{Lo: 1, Hi: 1}},
		{row, []int{2, 8, 3, 1}, api.FocusDrop{Cell: 3, Num: 1000, Den: 1000}, api.Range{Lo: 0, Hi: 3}},
		{row, []int{2, 0, 8, 9}, api.FocusDrop{Cell: 3, Num: 1, Den: 1000}, api.Range{Lo: 2, Hi: 3}},
		{row, []int{2, 0, 8, 9}, api.FocusDrop{Cell: 0, Num: 1, Den: 2}, api.Range{Lo: 0, Hi: 0}},
		{row, []int{2, 0, 8, 9}, api.FocusDrop{Cell: 1, Num: 1, Den: 1}, api.Range{Lo: 0, Hi: 3}},
		{row, []int{0, 0, 0, 0}, api.FocusDrop{Cell: 2, Num: 1, Den: 1}, api.Range{Lo: 0, Hi: 3}},
		{row, []int{2, 8, 3, 1}, api.FocusDrop{Cell: 2, Down: true, Num: 1, Den: 1}, api.Range{Lo: 0, Hi: 0}},
		{flat(1, 4), []int{2, 8, 3, 1}, api.FocusDrop{Cell: 1, Down: true, Num: 1, Den: 4}, api.Range{Lo: 0, Hi: 2}},
		{flat(1, 4), []int{2, 8, 3, 1}, api.FocusDrop{Cell: 1, Num: 1, Den: 1000}, api.Range{Lo: 0, Hi: 0}},
		{flat(2, 2), []int{1, 2, 3, 4}, api.FocusDrop{Cell: 2, Num: 1, Den: 1}, api.Range{Lo: 0, Hi: 1}},
		{flat(2, 2), []int{1, 2, 3, 4}, api.FocusDrop{Cell: 2, Down: true, Num: 1, Den: 1}, api.Range{Lo: 1, Hi: 1}},
		{flat(2, 1), []int{most, most - 1}, api.FocusDrop{Cell: 0, Num: 1000, Den: 1000}, api.Range{Lo: 0, Hi: 0}},
		{flat(2, 1), []int{most, 999 * (most / 1000)}, api.FocusDrop{Cell: 0, Num: 999, Den: 1000}, api.Range{Lo: 0, Hi: 1}},
		{flat(2, 1), []int{most, 999*(most/1000) - 1}, api.FocusDrop{Cell: 0, Num: 999, Den: 1000}, api.Range{Lo: 0, Hi: 0}},
	} {
		expectAlike(t, "DropOf", must(focus.DropOf(x.g, x.powers, x.drop)), x.want)
	}
	var n numbers = 7
	for range 500 {
		g, powers := n.powered()
		x := api.FocusDrop{Cell: n.from(0, len(powers)-1), Down: n.from(0, 1) == 0, Den: n.from(1, 5)}
		x.Num = n.from(1, x.Den)
		expectAlike(t, "DropOf", must(focus.DropOf(g, powers, x)), dropOf(g, powers, x))
	}
}

func TestDropOfRefuses(t *testing.T) {
	judge := func(x api.FocusDrop, want api.Errno) {
		t.Helper()
		r, e := focus.DropOf(flat(2, 1), []int{1, 2}, x)
		refused(t, "DropOf", r, e, want)
	}
	for _, cell := range wrongNumbers(2) {
		judge(api.FocusDrop{Cell: cell, Num: 1, Den: 1}, api.ErrMissing)
		judge(api.FocusDrop{Cell: cell, Down: true}, api.ErrMissing)
	}
	for _, x := range [][2]int{{0, 1}, {-1, 1}, {2, 1}, {1, 0}, {0, 0}, {-2, -1}, {1, -1}, {1, 1001}, {1001, 1001}, {1, huge}, {huge, huge}, {-huge - 1, huge}, {huge, -huge - 1}} {
		judge(api.FocusDrop{Num: x[0], Den: x[1]}, api.ErrRange)
	}
}

// Each function of a grid and of powers refuses those that are wrong, ahead of
// what else is wrong.
func TestPowersAreRefused(t *testing.T) {
	judge := func(g api.FocusGrid, powers []int, want api.Errno) {
		t.Helper()
		n, e := focus.Peak(g, powers)
		refused(t, "Peak", n, e, want)
		l, e := focus.Peaks(g, powers)
		refused(t, "Peaks", l, e, want)
		l, e = focus.Above(g, powers, -1)
		refused(t, "Above", l, e, want)
		r, e := focus.DropOf(g, powers, api.FocusDrop{Cell: -1})
		refused(t, "DropOf", r, e, want)
		s, e := focus.PrintPowers(g, powers)
		refused(t, "PrintPowers", s, e, want)
	}
	for want, g := range wrongGrids() {
		judge(g, []int{1, 2}, want)
		judge(g, nil, want)
		judge(g, []int{-1}, want)
	}
	for _, x := range wrongPowers() {
		judge(flat(2, 1), x.a, x.b)
	}
	judge(api.FocusGrid{}, nil, api.ErrRange)
	judge(api.FocusGrid{Columns: -1, Rows: -2, Step: 1}, []int{1, 2}, api.ErrRange)
}
