package flaw_test

import (
	"fmt"
	"slices"
	"testing"

	"couplant/api"
	"couplant/flaw"
)

// P8.3

func TestCheckGrid(t *testing.T) {
	for g, want := range map[api.FlawGrid]api.Errno{
		{Along: 1, Down: 1}: api.OK, {Along: 10000, Down: 10000}: api.OK, {Along: 100, Down: 50}: api.OK,
		{}: api.ErrRange, {Along: 1}: api.ErrRange, {Down: 1}: api.ErrRange, {Along: 10001, Down: 1}: api.ErrRange, {Along: 1, Down: 10001}: api.ErrRange,
		{Along: -1, Down: -1}: api.ErrRange, {Along: huge, Down: 1}: api.ErrRange, {Along: 1, Down: -huge - 1}: api.ErrRange,
	} {
		expect(t, fmt.Sprint("CheckGrid of ", g), 0, flaw.CheckGrid(g), 0, want)
	}
}

func TestMarksOfAreas(t *testing.T) {
	grid := api.FlawGrid{Along: 100, Down: 50}
	for _, x := range []struct {
		a    api.FlawArea
		g    api.FlawGrid
		want api.FlawMark
	}{
		{area(0, 0, 3, 0, 1, 0, 2), grid, mark("m", 0, 100, 50, 150, 3)},
		// More exactly: it is at least one cell long and deep.
		{area(0, 0, 0, 0, 0), grid, mark("m", 0, 100, 0, 50, 0)},
		{area(0, 0, 1000000000, -1, -1), grid, mark("m", -100, 0, -50, 0, 1000000000)},
		{area(0, 0, 1, -7, 5, -3, 9, -3, 10, 2, -4), grid, mark("m", -700, 300, -200, 550, 1)},
		{area(0, 0, 1, 0, 1, 0, 2), api.FlawGrid{Along: 10000, Down: 1}, mark("m", 0, 10000, 1, 3, 1)},
		// Whether the cells hang together, and what the peak is, is not asked.
		{area(huge, -huge-1, 1, 0, 0, 99, 99), api.FlawGrid{Along: 10000, Down: 10000}, mark("m", 0, 1000000, 0, 1000000, 1)},
		{area(0, 0, 1, -200000, 200000), api.FlawGrid{Along: 5, Down: 4}, mark("m", -1000000, -999995, 800000, 800004, 1)},
		{area(0, 0, 1, 199999, -200000), api.FlawGrid{Along: 5, Down: 5}, mark("m", 999995, 1000000, -1000000, -999995, 1)},
	} {
		expectAlike(t, fmt.Sprint("MarkOf ", x.a, x.g), must(flaw.MarkOf(x.a, x.g, "m")), x.want)
	}
	expectAlike(t, "MarkOf", must(flaw.MarkOf(area(0, 0, 3, 0, 1), grid, "Ab-3")).Name, "Ab-3")
}

func TestMarksOfGreatAreas(t *testing.T) {
	grid := api.FlawGrid{Along: 10, Down: 10}
	all := make([][2]int, 4096)
	for n := range all {
		all[n] = [2]int{n / 64, n % 64}
	}
	expectAlike(t, "MarkOf", must(flaw.MarkOf(api.FlawArea{Cells: all}, grid, "m")), mark("m", 0, 640, 0, 640, 0))
	all = append(all, [2]int{64, 0})
	m, e := flaw.MarkOf(api.FlawArea{Cells: all}, grid, "m")
	refused(t, "MarkOf", m, e, api.ErrLarge)
}

// grown is what MarkOf is told.
type grown struct {
	a    api.FlawArea
	g    api.FlawGrid
	name string
}

func TestErrorsOfAreasInOrder(t *testing.T) {
	faults := []fault[grown]{
		{func(x *grown) { x.a.Cells = nil }, 0, api.ErrShape},
		{func(x *grown) { x.a.Cells = slices.Repeat(cells(0, 0), 4097) }, 0, api.ErrLarge},
		{func(x *grown) { x.a.Cells = cells(0, 2, 200001, 0, 0, 1) }, 0, api.ErrRange},
		{func(x *grown) { x.a.Cells = cells(0, 2, 0, 1, 200001, 0) }, 0, api.ErrOrder},
		{func(x *grown) { x.g.Down = 0 }, 0, api.ErrRange},
		{func(x *grown) { x.name = "" }, 0, api.ErrName},
		{func(x *grown) { x.a.Level = -1 }, 0, api.ErrRange},
	}
	fresh := func() grown { return grown{area(0, 0, 3, 0, 1, 0, 2), api.FlawGrid{Along: 100, Down: 50}, "m"} }
	// An area has cells or not: what is wrong about them is judged one by one.
	for _, first := range []int{0, 1, 2, 3} {
		eachFault(fresh, append(faults[first:first+1:first+1], faults[4:]...), func(x grown, _ int, want api.Errno) {
			m, e := flaw.MarkOf(x.a, x.g, x.name)
			refused(t, fmt.Sprintf("MarkOf %.200v", x), m, e, want)
		})
	}
}

func TestErrorsOfCells(t *testing.T) {
	for _, x := range []struct {
		numbers []int
		want    api.Errno
	}{
		{[]int{200001, 0}, api.ErrRange}, {[]int{0, 200001}, api.ErrRange}, {[]int{-200001, 0}, api.ErrRange}, {[]int{0, -200001}, api.ErrRange},
		{[]int{huge, 0}, api.ErrRange}, {[]int{0, -huge - 1}, api.ErrRange}, {[]int{0, 0, 0, huge}, api.ErrRange}, {[]int{0, 0, -huge - 1, 0}, api.ErrRange},
		{[]int{0, 0, 0, 0}, api.ErrOrder}, {[]int{0, 1, 0, 0}, api.ErrOrder}, {[]int{1, 0, 0, 9}, api.ErrOrder}, {[]int{0, 0, 1, 0, 0, 1}, api.ErrOrder},
		{[]int{0, 0, 0, 0, 200001, 0}, api.ErrOrder}, {[]int{0, 0, -1, 200001}, api.ErrRange},
	} {
		m, e := flaw.MarkOf(area(0, 0, 0, x.numbers...), api.FlawGrid{}, "")
		refused(t, fmt.Sprint("MarkOf ", x.numbers), m, e, x.want)
	}
	// The errors of the mark: its name first, then its ranges, and its level.
	far := area(0, 0, -1, 100, 0)
	for _, x := range []struct {
		a    api.FlawArea
		name string
		want api.Errno
	}{
		{far, "0", api.ErrName}, {far, "m", api.ErrRange},
		{area(0, 0, 0, 100, 0), "m", api.ErrRange}, {area(0, 0, 0, -101, 0), "m", api.ErrRange}, {area(0, 0, 0, 0, 100), "m", api.ErrRange}, {area(0, 0, 0, 0, -101), "m", api.ErrRange},
		{area(0, 0, 0, 200000, 200000), "m", api.ErrRange}, {area(0, 0, 0, 0, 0, 100, 0), "m", api.ErrRange},
		{area(0, 0, 1000000001, 0, 0), "m", api.ErrRange}, {area(0, 0, -huge-1, 0, 0), "m", api.ErrRange},
		{area(0, 0, 0, 0, 0), "", api.ErrName}, {area(0, 0, 0, 0, 0), "abcdefghijklm", api.ErrName}, {area(0, 0, 0, 0, 0), "a b", api.ErrName}, {area(0, 0, 0, 0, 0), "\xff", api.ErrName},
	} {
		m, e := flaw.MarkOf(x.a, api.FlawGrid{Along: 10000, Down: 10000}, x.name)
		refused(t, fmt.Sprint("MarkOf ", x.a, x.name), m, e, x.want)
	}
	for _, g := range []api.FlawGrid{{}, {Along: 10001, Down: 1}, {Along: 1, Down: -1}} {
		m, e := flaw.MarkOf(far, g, "")
		refused(t, fmt.Sprint("MarkOf on ", g), m, e, api.ErrRange)
	}
}

// The marks of areas have each of their cells, and no less.
func TestMarksOfAreasAreAsDefined(t *testing.T) {
	var n numbers = 8
	for range 300 {
		l := n.scans(n.from(1, 4), 9)
		g := api.FlawGrid{Along: n.from(1, 10000), Down: n.from(1, 10000)}
		for _, a := range must(flaw.Areas(l, api.FlawAsk{Level: n.from(0, 9), Corners: n.isOnce(2)})) {
			m := must(flaw.MarkOf(a, g, "m"))
			var ends [2][]int
			for _, cell := range a.Cells {
				ends[0] = append(ends[0], cell[0]*g.Along, (cell[0]+1)*g.Along)
				ends[1] = append(ends[1], cell[1]*g.Down, (cell[1]+1)*g.Down)
			}
			want := mark("m", slices.Min(ends[0]), slices.Max(ends[0]), slices.Min(ends[1]), slices.Max(ends[1]), a.Level)
			expectAlike(t, "MarkOf", m, want)
			_, e := flaw.CheckMarks([]api.FlawMark{m})
			expect(t, "CheckMarks", 0, e, 0, api.OK)
		}
	}
}

// P8.6

func TestCheckMarks(t *testing.T) {
	const end = 1000000
	for _, x := range []struct {
		l    []api.FlawMark
		n    int
		want api.Errno
	}{
		{nil, 0, api.OK},
		{three(), 0, api.OK},
		// More exactly: marks may have no length, or no height.
		{[]api.FlawMark{mark("a", 5, 5, -5, -5, 0)}, 0, api.OK},
		{[]api.FlawMark{mark("a", -end, end, -end, end, 1000000000)}, 0, api.OK},
		{[]api.FlawMark{mark("a", end, end, -end, -end, 0), mark("A", 0, 0, 0, 0, 0)}, 0, api.OK},
		{numbered(make([]api.FlawMark, 20)), 0, api.OK},
		{numbered(make([]api.FlawMark, 21)), 0, api.ErrLarge},
		{make([]api.FlawMark, 21), 0, api.ErrLarge},
		{make([]api.FlawMark, 20), 0, api.ErrName},
		{append(three(), mark("a-b_", 0, 0, 0, 0, 0)), 3, api.ErrName},
		{append(three(), mark("abcdefghijklm", 0, 0, 0, 0, 0)), 3, api.ErrName},
		{append(three(), mark("d", -end-1, 0, 0, 0, 0)), 3, api.ErrRange},
		{append(three(), mark("d", 0, end+1, 0, 0, 0)), 3, api.ErrRange},
		{append(three(), mark("d", 0, 0, -end-1, 0, 0)), 3, api.ErrRange},
		{append(three(), mark("d", 0, 0, 0, end+1, 0)), 3, api.ErrRange},
		{append(three(), mark("d", end+1, 0, 0, 0, 0)), 3, api.ErrRange},
		{append(three(), mark("d", 0, 0, 0, -end-1, 0)), 3, api.ErrRange},
		{append(three(), mark("d", -huge-1, huge, 0, 0, 0)), 3, api.ErrRange},
		{append(three(), mark("d", 1, 0, 0, 0, 0)), 3, api.ErrOrder},
		{append(three(), mark("d", 0, 0, -1, -2, 0)), 3, api.ErrOrder},
		{append(three(), mark("d", 1, 0, end+1, end+1, 0)), 3, api.ErrRange},
		{append(three(), mark("d", 1, 0, 0, 0, -1)), 3, api.ErrOrder},
		{append(three(), mark("d", 0, 0, 0, 0, -1)), 3, api.ErrRange},
		{append(three(), mark("d", 0, 0, 0, 0, 1000000001)), 3, api.ErrRange},
		{append(three(), mark("a", 0, 0, 0, 0, 0)), 3, api.ErrExists},
		{append(three(), mark("c", 7, 7, 7, 7, 7), mark("", 0, 0, 0, 0, 0)), 3, api.ErrExists},
		{append(three(), mark("c", 7, 6, 7, 7, 7), mark("a", 0, 0, 0, 0, 0)), 3, api.ErrOrder},
		{append([]api.FlawMark{mark("a", 0, 0, 1, 0, 0)}, three()...), 0, api.ErrOrder},
	} {
		n, e := flaw.CheckMarks(x.l)
		expect(t, fmt.Sprint("CheckMarks of ", x.l), n, e, x.n, x.want)
	}
}

func TestErrorsOfMarksInOrder(t *testing.T) {
	faults := []fault[[]api.FlawMark]{
		{func(l *[]api.FlawMark) { *l = append(*l, make([]api.FlawMark, 18)...) }, 0, api.ErrLarge},
		{func(l *[]api.FlawMark) { (*l)[1].Name = "-" }, 1, api.ErrName},
		{func(l *[]api.FlawMark) { (*l)[1].Depth.Hi = 1000001 }, 1, api.ErrRange},
		{func(l *[]api.FlawMark) { (*l)[1].Along.Lo = 201 }, 1, api.ErrOrder},
		{func(l *[]api.FlawMark) { (*l)[1].Level = -1 }, 1, api.ErrRange},
		{func(l *[]api.FlawMark) { (*l)[0].Name = "b" }, 1, api.ErrExists},
		{func(l *[]api.FlawMark) { (*l)[2].Name = "" }, 2, api.ErrName},
	}
	eachFault(three, faults, func(l []api.FlawMark, n int, want api.Errno) {
		got, e := flaw.CheckMarks(l)
		expect(t, fmt.Sprint("CheckMarks of ", l), got, e, n, want)
	})
}

func TestCheckRule(t *testing.T) {
	for r, want := range map[api.FlawRule]api.Errno{
		// More exactly: share 0 / 1 is allowed.
		rule(0, 0, frac(0)): api.OK, rule(100000, 100000, frac(4)): api.OK, rule(0, 0, frac(399, 100)): api.OK, rule(0, 0, frac(1, 100)): api.OK, rule(50, 0, frac(7, 2)): api.OK,
		rule(-1, 0, frac(0)): api.ErrRange, rule(100001, 0, frac(0)): api.ErrRange, rule(0, -1, frac(0)): api.ErrRange, rule(0, 100001, frac(0, 0)): api.ErrRange,
		rule(huge, 0, frac(0)): api.ErrRange, rule(0, -huge-1, frac(0)): api.ErrRange, rule(-1, 0, frac(2, 4)): api.ErrRange,
		rule(0, 0, api.Frac{}): api.ErrForm, rule(0, 0, frac(0, 2)): api.ErrForm, rule(0, 0, frac(2, 4)): api.ErrForm, rule(0, 0, frac(-1, -2)): api.ErrForm, rule(0, 0, frac(1, -2)): api.ErrForm,
		rule(0, 0, frac(10, 2)): api.ErrForm, rule(0, 0, frac(2, 202)): api.ErrForm, rule(0, 0, frac(-huge-1, -huge-1)): api.ErrForm,
		rule(0, 0, frac(5)): api.ErrRange, rule(0, 0, frac(401, 100)): api.ErrRange, rule(0, 0, frac(9, 2)): api.ErrRange, rule(0, 0, frac(-1)): api.ErrRange, rule(0, 0, frac(-1, 100)): api.ErrRange,
		rule(0, 0, frac(1, 101)): api.ErrRange, rule(0, 0, frac(huge)): api.ErrRange, rule(0, 0, frac(1, huge)): api.ErrRange, rule(0, 0, frac(-huge-1)): api.ErrRange,
	} {
		expect(t, fmt.Sprint("CheckRule of ", r), 0, flaw.CheckRule(r), 0, want)
	}
}

func TestMarksInteract(t *testing.T) {
	a := mark("a", 0, 40, 0, 20, 0)
	along := func(lo, hi int) api.FlawMark { return mark("b", lo, hi, 0, 20, 0) }
	deep := func(up, down int) api.FlawMark { return mark("b", 0, 40, up, down, 0) }
	for _, x := range []struct {
		b    api.FlawMark
		r    api.FlawRule
		want bool
	}{
		// More exactly: a mark interacts with itself; gaps of ranges that touch are 0.
		{a, rule(0, 0, frac(0)), true},
		{along(40, 50), rule(0, 0, frac(0)), true},
		{along(-10, 0), rule(0, 0, frac(0)), true},
		{along(10, 20), rule(0, 0, frac(0)), true},
		{along(-99, 99), rule(0, 0, frac(0)), true},
		{along(41, 50), rule(0, 0, frac(0)), false},
		{along(-10, -1), rule(0, 0, frac(0)), false},
		{along(90, 99), rule(50, 0, frac(0)), true},
		{along(91, 99), rule(50, 0, frac(0)), false},
		{along(-99, -50), rule(50, 0, frac(0)), true},
		{along(-99, -51), rule(50, 0, frac(0)), false},
		// The lesser length counts, of 40 and 10, of 40 and 80.
		{along(95, 105), rule(50, 0, frac(1, 2)), true},
		{along(96, 106), rule(50, 0, frac(1, 2)), false},
		{along(110, 190), rule(50, 0, frac(1, 2)), true},
		{along(111, 191), rule(50, 0, frac(1, 2)), false},
		{along(200, 200), rule(160, 0, frac(4)), true},
		{along(201, 201), rule(160, 0, frac(4)), false},
		{along(250, 290), rule(50, 0, frac(4)), true},
		{along(251, 291), rule(50, 0, frac(4)), false},
		// A third of 40 is more than 13.
		{along(53, 93), rule(0, 0, frac(1, 3)), true},
		{along(54, 94), rule(0, 0, frac(1, 3)), false},
		{deep(20, 30), rule(0, 0, frac(0)), true},
		{deep(21, 30), rule(0, 0, frac(0)), false},
		{deep(-9, -1), rule(99, 0, frac(0)), false},
		{deep(-9, -1), rule(0, 1, frac(0)), true},
		{deep(60, 99), rule(0, 30, frac(1, 2)), true},
		{deep(61, 99), rule(0, 30, frac(1, 2)), false},
		{deep(53, 59), rule(0, 30, frac(1, 2)), true},
		{deep(54, 60), rule(0, 30, frac(1, 2)), false},
		// Both gaps count.
		{mark("b", 45, 50, 25, 30, 0), rule(5, 5, frac(0)), true},
		{mark("b", 45, 50, 25, 30, 0), rule(4, 5, frac(0)), false},
		{mark("b", 45, 50, 25, 30, 0), rule(5, 4, frac(0)), false},
		// Names and levels do not.
		{mark("a", 0, 40, 0, 20, 1000000000), rule(0, 0, frac(0)), true},
		{mark("b", -1000000, -1000000, 1000000, 1000000, 0), rule(100000, 100000, frac(4)), false},
	} {
		expectAlike(t, fmt.Sprint("Interact of ", x.b, x.r), must(flaw.Interact(a, x.b, x.r)), x.want)
		expectAlike(t, fmt.Sprint("Interact of ", x.b, x.r), must(flaw.Interact(x.b, a, x.r)), x.want)
	}
	wide := mark("a", -1000000, 1000000, -1000000, 1000000, 0)
	expectAlike(t, "Interact", must(flaw.Interact(wide, wide, rule(100000, 100000, frac(399, 100)))), true)
}

// The errors of both marks come first, and then those of the rule.
func TestErrorsOfInteractions(t *testing.T) {
	a := three()[0]
	refuse := func(a, b api.FlawMark, r api.FlawRule, want api.Errno) {
		t.Helper()
		is, e := flaw.Interact(a, b, r)
		refused(t, fmt.Sprint("Interact of ", a, b, r), is, e, want)
	}
	for want, wrong := range wrongMarks() {
		for _, b := range wrongMarks() {
			refuse(wrong, b, rule(-1, 0, frac(0)), want)
		}
		refuse(a, wrong, rule(-1, 0, frac(0, 0)), want)
	}
	for want, r := range wrongRules() {
		refuse(a, a, r, want)
	}
}

func TestHulls(t *testing.T) {
	for _, x := range []struct {
		l    []api.FlawMark
		want api.FlawMark
	}{
		{three(), mark("a", 0, 300, 0, 10, 0)},
		{three()[1:2], mark("b", 150, 200, 0, 10, 0)},
		{[]api.FlawMark{mark("x", 5, 5, 7, 7, 3), mark("a", -5, -4, 8, 9, 9), mark("b", 0, 1, -8, -7, 4)}, mark("x", -5, 5, -8, 9, 9)},
		{[]api.FlawMark{mark("z", -1000000, 0, 0, 0, 0), mark("y", 0, 1000000, 0, 0, 1000000000)}, mark("z", -1000000, 1000000, 0, 0, 1000000000)},
	} {
		expectAlike(t, fmt.Sprint("HullOf ", x.l), must(flaw.HullOf(x.l)), x.want)
	}
	for want, l := range wrongLists() {
		m, e := flaw.HullOf(l)
		refused(t, "HullOf", m, e, want)
	}
	for _, l := range [][]api.FlawMark{nil, {}} {
		m, e := flaw.HullOf(l)
		refused(t, "HullOf", m, e, api.ErrShape)
	}
}

func TestHullsAreAsDefined(t *testing.T) {
	var n numbers = 9
	for range 500 {
		l := n.marks(n.from(1, 20), 1000)
		all := make([]int, len(l))
		for k := range all {
			all[k] = k
		}
		expectAlike(t, "HullOf", must(flaw.HullOf(l)), hull(l, all))
	}
}

func TestGroupsOfExamples(t *testing.T) {
	for _, x := range []struct {
		l    []api.FlawMark
		r    api.FlawRule
		want [][]int
	}{
		{three(), rule(50, 0, frac(0)), [][]int{{0, 1}, {2}}},
		{three(), rule(50, 0, frac(1, 4)), [][]int{{0, 1, 2}}},
		{three(), rule(49, 0, frac(0)), [][]int{{0}, {1}, {2}}},
		{three(), rule(60, 0, frac(0)), [][]int{{0, 1, 2}}},
		{nil, rule(0, 0, frac(0)), nil},
		{three()[:1], rule(0, 0, frac(0)), [][]int{{0}}},
		// The last one joins both groups ahead of it.
		{[]api.FlawMark{mark("a", 0, 1, 0, 0, 0), mark("b", 100, 101, 0, 0, 0), mark("c", 50, 51, 0, 0, 0)}, rule(49, 0, frac(0)), [][]int{{0, 1, 2}}},
		{[]api.FlawMark{mark("a", 100, 101, 0, 0, 0), mark("b", 0, 1, 0, 0, 0), mark("c", 104, 105, 0, 0, 0), mark("d", 3, 4, 0, 0, 0)}, rule(3, 0, frac(0)), [][]int{{0, 2}, {1, 3}}},
		// Neither of both marks interacts with the third one, but their hull does: it
		// lies in it, or is longer than each of them.
		{[]api.FlawMark{mark("a", 0, 10, 0, 0, 0), mark("b", 10, 20, 20, 20, 0), mark("c", 2, 3, 10, 11, 0)}, rule(0, 20, frac(0)), [][]int{{0, 1, 2}}},
		{[]api.FlawMark{mark("a", 0, 10, 0, 0, 0), mark("b", 20, 30, 50, 50, 0), mark("c", 15, 16, 25, 26, 0)}, rule(10, 50, frac(0)), [][]int{{0, 1, 2}}},
		{[]api.FlawMark{mark("c", 45, 99, 0, 0, 0), mark("a", 0, 10, 0, 0, 0), mark("b", 20, 30, 0, 0, 0)}, rule(0, 0, frac(1)), [][]int{{0, 1, 2}}},
		{[]api.FlawMark{mark("c", 61, 99, 0, 0, 0), mark("a", 0, 10, 0, 0, 0), mark("b", 20, 30, 0, 0, 0)}, rule(0, 0, frac(1)), [][]int{{0}, {1, 2}}},
	} {
		expectAlike(t, fmt.Sprint("Grouped of ", x.l, x.r), must(flaw.Grouped(x.l, x.r)), x.want)
	}
}

// The errors of the list come first, and then those of the rule.
func TestErrorsOfGroups(t *testing.T) {
	for want, l := range wrongLists() {
		g, e := flaw.Grouped(l, rule(-1, 0, frac(0, 0)))
		refused(t, "Grouped", g, e, want)
	}
	for want, r := range wrongRules() {
		g, e := flaw.Grouped(three(), r)
		refused(t, "Grouped", g, e, want)
		g, e = flaw.Grouped(nil, r)
		refused(t, "Grouped of no marks", g, e, want)
	}
}

func TestGroupsAreAsDefined(t *testing.T) {
	var n numbers = 10
	sizes := map[int]int{}
	for range 2000 {
		most := []int{20, 100, 1000}[n.from(0, 2)]
		l, r := n.marks(n.from(0, 12), most), n.rule(most/8)
		for range 3 {
			k, j := n.from(0, 12), n.from(0, 12)
			if max(k, j) < len(l) {
				a, b := l[k], l[j]
				expectAlike(t, fmt.Sprint("Interact of ", a, b, r), must(flaw.Interact(a, b, r)), interact(a, b, r))
			}
		}
		groups := must(flaw.Grouped(l, r))
		expectAlike(t, fmt.Sprint("Grouped of ", l, r), groups, groupsOf(l, r, &n))
		for _, g := range groups {
			sizes[len(g)]++
		}
	}
	for size := 1; size <= 6; size++ {
		if sizes[size] < 50 {
			t.Error(sizes)
		}
	}
}

// P8.11

// membersOf returns the names of the marks of each group, both in their order.
func membersOf(l []api.FlawMark, groups [][]int) [][]string {
	var all [][]string
	for _, g := range groups {
		var names []string
		for _, k := range g {
			names = append(names, l[k].Name)
		}
		slices.Sort(names)
		all = append(all, names)
	}
	slices.SortFunc(all, slices.Compare[[]string])
	return all
}

// some returns the marks of a group.
func some(l []api.FlawMark, group []int) []api.FlawMark {
	var marks []api.FlawMark
	for _, k := range group {
		marks = append(marks, l[k])
	}
	return marks
}

func TestHullsOfGroupsDoNotInteract(t *testing.T) {
	var n numbers = 11
	pairs := 0
	for range 1000 {
		l, r := n.marks(n.from(2, 20), 500), n.rule(30)
		groups := must(flaw.Grouped(l, r))
		for k := range groups {
			for j := range k {
				a, b := must(flaw.HullOf(some(l, groups[k]))), must(flaw.HullOf(some(l, groups[j])))
				expectAlike(t, fmt.Sprint("Interact of ", a, b, r), must(flaw.Interact(a, b, r)), false)
				pairs++
			}
		}
	}
	if pairs < 1000 {
		t.Errorf("only %d pairs", pairs)
	}
}

func TestGroupsDoNotDependOnTheOrder(t *testing.T) {
	var n numbers = 12
	for range 1000 {
		l, r := n.marks(n.from(1, 20), 500), n.rule(30)
		want := membersOf(l, must(flaw.Grouped(l, r)))
		for range 3 {
			other := shuffled(&n, l)
			expectAlike(t, "Grouped", membersOf(other, must(flaw.Grouped(other, r))), want)
		}
	}
}

// Groups of a rule with greater gaps, or a greater share, have all marks of each
// group of the rule.
func TestGroupsBecomeGreater(t *testing.T) {
	var n numbers = 13
	grown := 0
	for range 1000 {
		l, r := n.marks(n.from(1, 20), 500), n.rule(30)
		lesser := must(flaw.Grouped(l, r))
		r.Along += n.from(0, 20)
		r.Down += n.from(0, 20)
		if n.isOnce(3) {
			r.Share = frac(4)
		}
		greater := must(flaw.Grouped(l, r))
		for _, g := range lesser {
			isWithin := slices.ContainsFunc(greater, func(h []int) bool {
				return !slices.ContainsFunc(g, func(k int) bool { return !slices.Contains(h, k) })
			})
			if !isWithin {
				t.Errorf("%v lies in none of %v", g, greater)
			}
		}
		if len(greater) < len(lesser) {
			grown++
		}
	}
	if grown < 100 {
		t.Errorf("only %d grow", grown)
	}
}
