package flaw_test

import (
	"math"
	"reflect"
	"testing"

	"couplant/api"
	"couplant/flaw"
)

// R3: arguments stay as they are, also behind their ends, and results are in
// their own memory.
func TestArgumentsStay(t *testing.T) {
	data := append(make([]int, 0, 9), 5, 0, 7, 0, 6, 0)
	scans := append(make([]api.FlawScan, 0, 5), scan(0, 0, 3, data...))
	scans[0].Data = data
	marks := append(make([]api.FlawMark, 0, 5), three()...)
	others := append(make([]api.FlawMark, 0, 5), other()...)
	pairs := append(make([][2]int, 0, 3), [2]int{1, 0})
	cover := append(make([]int, 0, 3), 0, 1, 2)
	all := append(make([][2]int, 0, 5), cells(0, 1, 0, 2)...)
	grid := api.FlawGrid{Along: 100, Down: 50}
	x := api.FlawAsk{Level: 5}
	lists := [2][]api.FlawMark{marks, others}
	for range 2 {
		must(flaw.At(scans, [2]int{}))
		areas := must(flaw.Areas(scans, x))
		expectAlike(t, "Areas", areas, []api.FlawArea{area(0, 0, 5, 0, 0), area(0, 2, 7, 0, 2), area(1, 1, 6, 1, 1)})
		// Appending to the cells of one area changes no other one.
		_ = append(areas[0].Cells, [2]int{9, 9})
		expectAlike(t, "Areas", areas[1].Cells, cells(0, 2))
		clear(areas[1].Cells)
		a := must(flaw.AreaAt(scans, x, [2]int{1, 1}))
		expectAlike(t, "AreaAt", a, area(1, 1, 6, 1, 1))
		clear(a.Cells)
		must(flaw.MarkOf(api.FlawArea{Cells: all}, grid, "m"))
		_, e := flaw.DropRange(scans, [3]int{0, 1, 1}, frac(1))
		expect(t, "DropRange", 0, e, 0, api.ErrZero)
		must(flaw.HullOf(marks))
		groups := must(flaw.Grouped(marks, rule(50, 0, frac(0))))
		expectAlike(t, "Grouped", groups, [][]int{{0, 1}, {2}})
		_ = append(groups[0], 9)
		expectAlike(t, "Grouped", groups[1], []int{2})
		clear(groups[0])
		compared, proof, e := flaw.Compared(marks, others, 200)
		expect(t, "Compared", len(compared), e, 1, api.OK)
		expectAlike(t, "Compared's cover", proof, api.FlawCover{Second: []int{0}})
		clear(compared)
		clear(proof.Second)
		must(flaw.CheckPairs(lists, 200, pairs))
		must(flaw.CheckCover(lists, 200, api.FlawCover{First: cover}))
		must(flaw.Agreement(marks, others, 200))
	}
	for _, x := range []struct{ got, want any }{
		{data[:9], []int{5, 0, 7, 0, 6, 0, 0, 0, 0}},
		{scans[:5], append(six(), make([]api.FlawScan, 4)...)},
		{marks[:5], append(three(), api.FlawMark{}, api.FlawMark{})},
		{others[:5], append(other(), make([]api.FlawMark, 4)...)},
		{pairs[:3], cells(1, 0, 0, 0, 0, 0)},
		{cover[:3], []int{0, 1, 2}},
		{all[:5], cells(0, 1, 0, 2, 0, 0, 0, 0, 0, 0)},
	} {
		if !reflect.DeepEqual(x.got, x.want) {
			t.Errorf("%v has become %v", x.want, x.got)
		}
	}
}

// R4: results depend on the arguments alone.
func TestTheSameResultsAgain(t *testing.T) {
	var n numbers = 18
	for range 50 {
		l, a, b := n.scans(4, 3), n.marks(12, 60), n.marks(12, 60)
		areas := must(flaw.Areas(l, api.FlawAsk{Level: 2}))
		pairs, cover, _ := flaw.Compared(a, b, 5)
		for range 5 {
			expectAlike(t, "Areas", must(flaw.Areas(l, api.FlawAsk{Level: 2})), areas)
			again, proof, e := flaw.Compared(a, b, 5)
			expect(t, "Compared", again, e, pairs, api.OK)
			expectAlike(t, "Compared's cover", proof, cover)
		}
	}
}

// edge returns a number that is right mostly, and otherwise as far away as may
// be.
func (n *numbers) edge(right int) int {
	if n.from(0, 9) > 0 {
		return right
	}
	edges := []int{math.MinInt, math.MinInt + 1, -1000001, -200001, -1, 0, 1, 2, 25, 101, 100001, 1000001, 1 << 31, 1 << 32, 1 << 62, huge - 1, huge}
	return edges[n.from(0, len(edges)-1)]
}

func (n *numbers) edgeRange(r api.Range) api.Range {
	return span(n.edge(r.Lo), n.edge(r.Hi))
}

func (n *numbers) edgeFrac(f api.Frac) api.Frac {
	return api.Frac{Num: n.edge(f.Num), Den: n.edge(f.Den)}
}

func (n *numbers) edgeMarks() []api.FlawMark {
	l := n.marks(3, 50)
	for k := range l {
		l[k].Along, l[k].Depth, l[k].Level = n.edgeRange(l[k].Along), n.edgeRange(l[k].Depth), n.edge(l[k].Level)
	}
	return l
}

// R2: no function panics, whatever its arguments are.
func TestAnyNumbers(t *testing.T) {
	var n numbers = 19
	for range 5000 {
		l := n.scans(2, 9)
		for k := range l {
			s := &l[k]
			s.Row, s.Column, s.Rows, s.Columns, s.Data[0] = n.edge(s.Row), n.edge(s.Column), n.edge(s.Rows), n.edge(s.Columns), n.edge(s.Data[0])
		}
		cell := [2]int{n.edge(l[0].Row), n.edge(l[0].Column)}
		x := api.FlawAsk{Level: n.edge(3), Corners: n.isOnce(2)}
		flaw.CheckScans(l)
		flaw.At(l, cell)
		flaw.Areas(l, x)
		flaw.AreaAt(l, x, cell)
		flaw.DropRange(l, [3]int{cell[0], cell[1], n.edge(1)}, n.edgeFrac(frac(1, 2)))
		grid := api.FlawGrid{Along: n.edge(5), Down: n.edge(7)}
		flaw.CheckGrid(grid)
		a := api.FlawArea{Cells: [][2]int{{n.edge(-1), n.edge(-1)}, {n.edge(3), n.edge(3)}}, Peak: cell, Level: n.edge(5)}
		if m, e := flaw.MarkOf(a, grid, "m"); e == api.OK {
			expectAlike(t, "ParseMark", must(flaw.ParseMark(flaw.FormatMark(m))), m)
		}
		flaw.TipDepth(api.FlawTip{Time: n.edgeRange(span(5, 50000000)), Offset: n.edgeRange(span(0, 100)), Speed: n.edge(6000)})
		flaw.HeightOf(n.edgeRange(span(0, 50)), n.edgeRange(span(20, 70)))
		callAll(n.edgeMarks(), n.edgeMarks(), rule(n.edge(10), n.edge(10), n.edgeFrac(frac(1, 2))), n.edge(20), [2]int{n.edge(0), n.edge(0)})
	}
}

// callAll calls what is asked of marks.
func callAll(a, b []api.FlawMark, r api.FlawRule, slack int, pair [2]int) {
	flaw.CheckMarks(a)
	flaw.CheckRule(r)
	flaw.Interact(a[0], b[0], r)
	flaw.HullOf(a)
	flaw.Grouped(a, r)
	flaw.Alike(a[0], b[0], slack)
	flaw.Compared(a, b, slack)
	flaw.CheckPairs([2][]api.FlawMark{a, b}, slack, [][2]int{pair, {1, 1}})
	flaw.CheckCover([2][]api.FlawMark{a, b}, slack, api.FlawCover{First: pair[:1], Second: pair[1:]})
	flaw.Agreement(a, b, slack)
	flaw.ParseMark(flaw.FormatMark(a[0]))
}

// P2: the true height of a flaw lies in its range; areas and groups do not
// depend on the order.
func TestMarksOfTwoAnalysts(t *testing.T) {
	var n numbers = 20
	agreed := 0
	for range 200 {
		l := n.scans(4, 9)
		first := marksOf(t, shuffled(&n, l), 8)
		second := marksOf(t, shuffled(&n, l), 8)
		expectAlike(t, "the marks of the areas", first, second)
		r := n.rule(100)
		expectAlike(t, "Grouped", must(flaw.Grouped(first, r)), must(flaw.Grouped(second, r)))
		if len(first) > 0 {
			expectAlike(t, "Agreement", must(flaw.Agreement(first, shuffled(&n, second), 0)), frac(1))
			agreed++
		}
	}
	if agreed < 100 {
		t.Errorf("only %d have marks", agreed)
	}
}

// marksOf returns the marks of the areas of scans, at most as many as a list may
// have.
func marksOf(t *testing.T, l []api.FlawScan, level int) []api.FlawMark {
	t.Helper()
	var marks []api.FlawMark
	for _, a := range must(flaw.Areas(l, api.FlawAsk{Level: level})) {
		if len(marks) < 20 {
			marks = append(marks, must(flaw.MarkOf(a, api.FlawGrid{Along: 100, Down: 50}, "m")))
		}
	}
	return numbered(marks)
}
