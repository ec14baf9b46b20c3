package flaw

import (
	"cmp"
	"slices"

	"couplant/api"
	"couplant/check"
)

// MarkOf returns the mark of an area on a grid, with a name.
func MarkOf(a api.FlawArea, g api.FlawGrid, name string) (api.FlawMark, api.Errno) {
	if e := check.First(cellsError(a.Cells), CheckGrid(g)); e != api.OK {
		return api.FlawMark{}, e
	}
	m := api.FlawMark{
		Name:  name,
		Along: stretch(a.Cells, 0, g.Along),
		Depth: stretch(a.Cells, 1, g.Down),
		Level: a.Level,
	}
	if e := markError(m); e != api.OK {
		return api.FlawMark{}, e
	}
	return m, api.OK
}

// stretch returns from where to where cells go along rows (0) or columns (1),
// of which each one is a step long.
func stretch(cells [][2]int, along, step int) api.Range {
	least, greatest := cells[0][along], cells[0][along]
	for _, cell := range cells {
		least, greatest = min(least, cell[along]), max(greatest, cell[along])
	}
	return api.Range{Lo: least * step, Hi: (greatest + 1) * step}
}

// Interact returns whether two marks interact by a rule.
func Interact(a, b api.FlawMark, r api.FlawRule) (bool, api.Errno) {
	if e := check.First(markError(a), markError(b), CheckRule(r)); e != api.OK {
		return false, e
	}
	return doInteract(a, b, r), api.OK
}

func doInteract(a, b api.FlawMark, r api.FlawRule) bool {
	return areNear(a.Along, b.Along, r.Along, r.Share) && areNear(a.Depth, b.Depth, r.Down, r.Share)
}

// areNear returns whether the gap of two ranges is at most a length and a share
// of the lesser range, together.
func areNear(a, b api.Range, length int, share api.Frac) bool {
	lesser := min(a.Hi-a.Lo, b.Hi-b.Lo)
	return (gap(a, b)-length)*share.Den <= share.Num*lesser
}

// gap returns how far two ranges lie apart.
func gap(a, b api.Range) int {
	return max(0, b.Lo-a.Hi, a.Lo-b.Hi)
}

// HullOf returns the hull of marks.
func HullOf(l []api.FlawMark) (api.FlawMark, api.Errno) {
	if e := check.First(marksError(l), check.Unless(len(l) > 0, api.ErrShape)); e != api.OK {
		return api.FlawMark{}, e
	}
	hull := l[0]
	for _, m := range l {
		hull = hullOf(hull, m)
	}
	return hull, api.OK
}

func hullOf(a, b api.FlawMark) api.FlawMark {
	return api.FlawMark{
		Name:  a.Name,
		Along: spanOf(a.Along, b.Along),
		Depth: spanOf(a.Depth, b.Depth),
		Level: max(a.Level, b.Level),
	}
}

// spanOf returns the least range that has two ranges.
func spanOf(a, b api.Range) api.Range {
	return api.Range{Lo: min(a.Lo, b.Lo), Hi: max(a.Hi, b.Hi)}
}

// group is marks, by their numbers, and their hull.
type group struct {
	hull  api.FlawMark
	marks []int
}

// Grouped returns the groups of marks. Hulls only grow, and what interacts with
// a part of a hull interacts with all of it: so each mark may come in when those
// ahead of it are grouped.
func Grouped(l []api.FlawMark, r api.FlawRule) ([][]int, api.Errno) {
	if e := check.First(marksError(l), CheckRule(r)); e != api.OK {
		return nil, e
	}
	var groups []group
	for n, m := range l {
		groups = joined(groups, group{m, []int{n}}, r)
	}
	var numbers [][]int
	for _, g := range groups {
		slices.Sort(g.marks)
		numbers = append(numbers, g.marks)
	}
	slices.SortFunc(numbers, func(a, b []int) int { return cmp.Compare(a[0], b[0]) })
	return numbers, api.OK
}

// joined returns groups with one more, which takes in each one that it interacts
// with, and those that it does then.
func joined(groups []group, g group, r api.FlawRule) []group {
	doesInteract := func(other group) bool { return doInteract(g.hull, other.hull, r) }
	for n := slices.IndexFunc(groups, doesInteract); n >= 0; n = slices.IndexFunc(groups, doesInteract) {
		other := groups[n]
		groups = slices.Delete(groups, n, n+1)
		g = group{hullOf(g.hull, other.hull), append(g.marks, other.marks...)}
	}
	return append(groups, g)
}
