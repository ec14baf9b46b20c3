package flaw_test

import (
	"fmt"
	"slices"
	"testing"

	"couplant/api"
	"couplant/flaw"
)

// P8.1

func TestCheckScans(t *testing.T) {
	edge := make([]int, 24*24)
	edge[0], edge[575] = 1000000000, 1000000000
	for _, x := range []struct {
		l    []api.FlawScan
		n    int
		want api.Errno
	}{
		{nil, 0, api.OK},
		{six(), 0, api.OK},
		{[]api.FlawScan{scan(100000, -100000, 24, edge...), scan(-100000, 100000, 24, edge...)}, 0, api.OK},
		{slices.Repeat(six(), 6), 0, api.OK},
		{slices.Repeat(six(), 7), 0, api.ErrLarge},
		{[]api.FlawScan{scan(100001, 0, 1, 1)}, 0, api.ErrRange},
		{[]api.FlawScan{scan(-100001, 0, 1, 1)}, 0, api.ErrRange},
		{[]api.FlawScan{scan(0, 100001, 1, 1)}, 0, api.ErrRange},
		{[]api.FlawScan{scan(0, -100001, 1, 1)}, 0, api.ErrRange},
		{[]api.FlawScan{scan(0, huge, 1, 1)}, 0, api.ErrRange},
		{[]api.FlawScan{scan(-huge-1, 0, 1, 1)}, 0, api.ErrRange},
		{[]api.FlawScan{scan(0, 0, 25, make([]int, 25)...)}, 0, api.ErrRange},
		{[]api.FlawScan{scan(0, 0, 1, make([]int, 25)...)}, 0, api.ErrRange},
		{[]api.FlawScan{{}}, 0, api.ErrRange},
		{[]api.FlawScan{{Rows: 1}}, 0, api.ErrRange},
		{[]api.FlawScan{{Columns: 1}}, 0, api.ErrRange},
		{[]api.FlawScan{{Rows: -1, Columns: -1, Data: []int{1}}}, 0, api.ErrRange},
		{[]api.FlawScan{{Rows: 1 << 32, Columns: 1 << 32}}, 0, api.ErrRange},
		{[]api.FlawScan{{Rows: 1, Columns: 1}}, 0, api.ErrShape},
		{[]api.FlawScan{{Rows: 2, Columns: 3, Data: make([]int, 5)}}, 0, api.ErrShape},
		{[]api.FlawScan{{Rows: 2, Columns: 3, Data: make([]int, 7)}}, 0, api.ErrShape},
		{[]api.FlawScan{scan(0, 0, 1, -1)}, 0, api.ErrRange},
		{[]api.FlawScan{scan(0, 0, 2, 0, 1000000001)}, 0, api.ErrRange},
		{[]api.FlawScan{scan(0, 0, 2, 0, -huge-1)}, 0, api.ErrRange},
		{append(six(), scan(0, 0, 1, 1), api.FlawScan{}), 2, api.ErrRange},
		{append(six(), api.FlawScan{Rows: 1, Columns: 1}, api.FlawScan{}), 1, api.ErrShape},
		{append(six(), scan(0, 0, 1, 0, 0, -1), api.FlawScan{Rows: 1, Columns: 1}), 1, api.ErrRange},
	} {
		n, e := flaw.CheckScans(x.l)
		expect(t, fmt.Sprintf("CheckScans of %.200v", x.l), n, e, x.n, x.want)
	}
}

func TestErrorsOfScansInOrder(t *testing.T) {
	faults := []fault[[]api.FlawScan]{
		{func(l *[]api.FlawScan) { *l = append(*l, slices.Repeat(six(), 6)...) }, 0, api.ErrLarge},
		{func(l *[]api.FlawScan) { (*l)[0].Row = 100001 }, 0, api.ErrRange},
		{func(l *[]api.FlawScan) { (*l)[0].Data = append((*l)[0].Data, 0) }, 0, api.ErrShape},
		{func(l *[]api.FlawScan) { (*l)[0].Data[0] = -1 }, 0, api.ErrRange},
		{func(l *[]api.FlawScan) { (*l)[1].Columns = 0 }, 1, api.ErrRange},
		{func(l *[]api.FlawScan) { (*l)[1].Data = append((*l)[1].Data, 0) }, 1, api.ErrShape},
		{func(l *[]api.FlawScan) { (*l)[1].Data[0] = -1 }, 1, api.ErrRange},
	}
	eachFault(func() []api.FlawScan { return slices.Concat(six(), six()) }, faults, func(l []api.FlawScan, n int, want api.Errno) {
		got, e := flaw.CheckScans(l)
		expect(t, fmt.Sprint("CheckScans of ", l), got, e, n, want)
	})
}

func TestAt(t *testing.T) {
	more := append(six(), scan(0, 1, 1, 9), scan(0, 0, 2, 1, 8))
	for _, x := range []struct {
		row, column, want int
	}{{0, 0, 5}, {0, 1, 9}, {0, 2, 7}, {1, 0, 0}, {1, 1, 6}, {1, 2, 0}} {
		expectAlike(t, "At", must(flaw.At(more, [2]int{x.row, x.column})), x.want)
	}
	for _, cell := range cells(-1, 0, 0, -1, 0, 3, 2, 0, 1, 3, huge, 0, 0, huge, -huge-1, -huge-1) {
		n, e := flaw.At(more, cell)
		refused(t, fmt.Sprint("At ", cell), n, e, api.ErrMissing)
	}
	n, e := flaw.At(nil, [2]int{})
	refused(t, "At of no scans", n, e, api.ErrMissing)
	for want, l := range wrongScans() {
		n, e := flaw.At(l, [2]int{5, 5})
		refused(t, "At", n, e, want)
	}
}

func TestAmplitudesAreAsDefined(t *testing.T) {
	var n numbers = 1
	for range 300 {
		l := n.scans(n.from(1, 6), 9)
		for row := -5; row <= 10; row++ {
			for column := -5; column <= 10; column++ {
				cell := [2]int{row, column}
				got, e := flaw.At(l, cell)
				if want, isKnown := amplitudeOf(l, cell); isKnown {
					expect(t, "At", got, e, want, api.OK)
				} else {
					refused(t, "At", got, e, api.ErrMissing)
				}
			}
		}
	}
}

// P8.2

func TestAreasOfExamples(t *testing.T) {
	more := append(six(), scan(0, 1, 1, 9))
	for _, x := range []struct {
		l    []api.FlawScan
		ask  api.FlawAsk
		want []api.FlawArea
	}{
		{six(), api.FlawAsk{Level: 5}, []api.FlawArea{area(0, 0, 5, 0, 0), area(0, 2, 7, 0, 2), area(1, 1, 6, 1, 1)}},
		{six(), api.FlawAsk{Level: 5, Corners: true}, []api.FlawArea{area(0, 2, 7, 0, 0, 0, 2, 1, 1)}},
		{more, api.FlawAsk{Level: 5}, []api.FlawArea{area(0, 1, 9, 0, 0, 0, 1, 0, 2, 1, 1)}},
		{six(), api.FlawAsk{Level: 6}, []api.FlawArea{area(0, 2, 7, 0, 2), area(1, 1, 6, 1, 1)}},
		{six(), api.FlawAsk{Level: 6, Corners: true}, []api.FlawArea{area(0, 2, 7, 0, 2, 1, 1)}},
		{six(), api.FlawAsk{Level: 8}, nil},
		{nil, api.FlawAsk{}, nil},
		// More exactly: with Level 0 all known cells are above it.
		{six(), api.FlawAsk{}, []api.FlawArea{area(0, 2, 7, 0, 0, 0, 1, 0, 2, 1, 0, 1, 1, 1, 2)}},
		{[]api.FlawScan{scan(3, -2, 1, 0, 0)}, api.FlawAsk{}, []api.FlawArea{area(3, -2, 0, 3, -2, 4, -2)}},
		// The first cell of the greatest amplitude is the peak.
		{[]api.FlawScan{scan(-1, -1, 3, 4, 8, 8, 8, 4, 8)}, api.FlawAsk{Level: 1}, []api.FlawArea{area(-1, 0, 8, -1, -1, -1, 0, -1, 1, 0, -1, 0, 0, 0, 1)}},
		// More exactly: scans may lie apart; what lies between them parts areas.
		{[]api.FlawScan{scan(0, 2, 1, 5), scan(0, 0, 1, 5)}, api.FlawAsk{}, []api.FlawArea{area(0, 0, 5, 0, 0), area(0, 2, 5, 0, 2)}},
		{[]api.FlawScan{scan(0, 2, 1, 5), scan(0, 0, 1, 5), scan(1, 1, 1, 0)}, api.FlawAsk{Corners: true}, []api.FlawArea{area(0, 0, 5, 0, 0, 0, 2, 1, 1)}},
		{[]api.FlawScan{scan(0, 1, 1, 5), scan(0, 0, 1, 6)}, api.FlawAsk{}, []api.FlawArea{area(0, 0, 6, 0, 0, 0, 1)}},
		{[]api.FlawScan{scan(0, 0, 1, 1000000000)}, api.FlawAsk{Level: 1000000000}, []api.FlawArea{area(0, 0, 1000000000, 0, 0)}},
		// The end of a row and the start of the next one are no neighbours.
		{[]api.FlawScan{scan(0, 0, 3, 0, 0, 5, 5, 0, 0)}, api.FlawAsk{Level: 5, Corners: true}, []api.FlawArea{area(0, 2, 5, 0, 2), area(1, 0, 5, 1, 0)}},
	} {
		expectAlike(t, fmt.Sprint("Areas of ", x.l, x.ask), must(flaw.Areas(x.l, x.ask)), x.want)
	}
}

func TestGreatAreas(t *testing.T) {
	full := slices.Repeat([]int{7}, 24*24)
	var l []api.FlawScan
	for n := range 6 {
		l = append(l, scan(100000-n*24, -100000, 24, full...))
	}
	areas := must(flaw.Areas(l, api.FlawAsk{Level: 7}))
	expectAlike(t, "areas", len(areas), 1)
	expectAlike(t, "cells", len(areas[0].Cells), 6*24*24)
	expectAlike(t, "Peak", areas[0].Peak, [2]int{100000 - 5*24, -100000})
	// A way that winds through all rows.
	var wind []int
	for row := range 24 {
		line := slices.Repeat([]int{row%2*-7 + 7}, 24)
		if row%4 == 1 {
			line[23] = 7
		}
		if row%4 == 3 {
			line[0] = 7
		}
		wind = append(wind, line...)
	}
	areas = must(flaw.Areas([]api.FlawScan{scan(0, 0, 24, wind...)}, api.FlawAsk{Level: 1}))
	expectAlike(t, "areas", len(areas), 1)
	expectAlike(t, "cells", len(areas[0].Cells), 12*24+12)
}

func TestAreaAt(t *testing.T) {
	for _, x := range []struct {
		cell [2]int
		ask  api.FlawAsk
		want api.FlawArea
	}{
		{[2]int{1, 1}, api.FlawAsk{Level: 5, Corners: true}, area(0, 2, 7, 0, 0, 0, 2, 1, 1)},
		{[2]int{1, 1}, api.FlawAsk{Level: 6}, area(1, 1, 6, 1, 1)},
		{[2]int{1, 0}, api.FlawAsk{}, area(0, 2, 7, 0, 0, 0, 1, 0, 2, 1, 0, 1, 1, 1, 2)},
	} {
		expectAlike(t, "AreaAt", must(flaw.AreaAt(six(), x.ask, x.cell)), x.want)
	}
	for _, x := range []struct {
		cell  [2]int
		level int
		want  api.Errno
	}{
		{[2]int{0, 1}, 5, api.ErrNone}, {[2]int{0, 1}, 1, api.ErrNone}, {[2]int{1, 1}, 7, api.ErrNone},
		{[2]int{2, 0}, 5, api.ErrMissing}, {[2]int{-1, 0}, 0, api.ErrMissing}, {[2]int{0, 3}, 1000000000, api.ErrMissing},
		{[2]int{huge, -huge - 1}, 0, api.ErrMissing},
	} {
		a, e := flaw.AreaAt(six(), api.FlawAsk{Level: x.level}, x.cell)
		refused(t, fmt.Sprint("AreaAt ", x.cell), a, e, x.want)
	}
}

// The errors of the scans come first, then those of the ask.
func TestErrorsOfAsks(t *testing.T) {
	refuse := func(l []api.FlawScan, x api.FlawAsk, want api.Errno) {
		t.Helper()
		all, e := flaw.Areas(l, x)
		refused(t, "Areas", all, e, want)
		a, e := flaw.AreaAt(l, x, [2]int{9, 9})
		refused(t, "AreaAt", a, e, want)
	}
	for want, l := range wrongScans() {
		refuse(l, api.FlawAsk{Level: -1}, want)
	}
	for _, x := range wrongAsks() {
		refuse(six(), x, api.ErrRange)
	}
}

func TestAreasAreAsDefined(t *testing.T) {
	var n numbers = 2
	count := 0
	for range 400 {
		l := n.scans(n.from(1, 4), 9)
		x := api.FlawAsk{Level: n.from(0, 10), Corners: n.isOnce(2)}
		areas := must(flaw.Areas(l, x))
		want := areasOf(l, x)
		expectAlike(t, fmt.Sprint("Areas of ", l, x), areas, want)
		count += len(areas)
		for _, a := range want {
			for _, cell := range a.Cells {
				expectAlike(t, "AreaAt", must(flaw.AreaAt(l, x, cell)), a)
			}
		}
		for _, cell := range cellsOf(l, 0) {
			if amplitude, _ := amplitudeOf(l, cell); amplitude < x.Level {
				a, e := flaw.AreaAt(l, x, cell)
				refused(t, "AreaAt", a, e, api.ErrNone)
			}
		}
	}
	if count < 1000 {
		t.Errorf("only %d areas", count)
	}
}

// P8.9

// cut returns a scan cut into two, if it has two rows or two columns.
func cut(n *numbers, s api.FlawScan) []api.FlawScan {
	if s.Rows > 1 {
		k := n.from(1, s.Rows-1)
		first, last := s, s
		first.Rows, last.Rows, last.Row = k, s.Rows-k, s.Row+k
		first.Data, last.Data = s.Data[:k*s.Columns], s.Data[k*s.Columns:]
		return []api.FlawScan{last, first}
	}
	if s.Columns > 1 {
		k := n.from(1, s.Columns-1)
		return []api.FlawScan{scan(s.Row, s.Column+k, s.Columns-k, s.Data[k:]...), scan(s.Row, s.Column, k, s.Data[:k]...)}
	}
	return []api.FlawScan{s}
}

func TestAreasDoNotDependOnScans(t *testing.T) {
	var n numbers = 3
	for range 500 {
		l := n.scans(n.from(1, 4), 9)
		x := api.FlawAsk{Level: n.from(0, 9), Corners: n.isOnce(2)}
		want := must(flaw.Areas(l, x))
		k := n.from(0, len(l)-1)
		twice := append(slices.Clone(l), l[k])
		parts := slices.Concat(l[:k], cut(&n, l[k]), l[k+1:])
		for what, other := range map[string][]api.FlawScan{"in another order": l, "told twice": twice, "cut into two": parts} {
			expectAlike(t, "Areas of scans "+what, must(flaw.Areas(shuffled(&n, other), x)), want)
		}
	}
}

// expectWithin expects that all cells of each area lie in one of the greater
// ones.
func expectWithin(t *testing.T, lesser, greater []api.FlawArea) {
	t.Helper()
	for _, a := range lesser {
		isWithin := slices.ContainsFunc(greater, func(b api.FlawArea) bool {
			return !slices.ContainsFunc(a.Cells, func(cell [2]int) bool { return !slices.Contains(b.Cells, cell) })
		})
		if !isWithin {
			t.Errorf("%v lies in none of %v", a, greater)
		}
	}
}

func TestAreasOfGreaterLevelsAndCorners(t *testing.T) {
	var n numbers = 4
	parted := 0
	for range 500 {
		l := n.scans(n.from(1, 4), 9)
		level, corners := n.from(0, 8), n.isOnce(2)
		lesser := must(flaw.Areas(l, api.FlawAsk{Level: n.from(level, 9), Corners: corners}))
		greater := must(flaw.Areas(l, api.FlawAsk{Level: level, Corners: corners}))
		expectWithin(t, lesser, greater)
		with := must(flaw.Areas(l, api.FlawAsk{Level: level, Corners: true}))
		without := must(flaw.Areas(l, api.FlawAsk{Level: level}))
		expectWithin(t, without, with)
		// All cells of the areas with corners are in those without.
		count := 0
		for _, a := range with {
			count += len(a.Cells)
		}
		for _, a := range without {
			count -= len(a.Cells)
		}
		expectAlike(t, "cells more", count, 0)
		if len(with) < len(without) {
			parted++
		}
	}
	if parted < 100 {
		t.Errorf("only %d are parted without corners", parted)
	}
}
