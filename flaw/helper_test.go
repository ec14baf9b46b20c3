package flaw_test

import (
	"fmt"
	"math"
	"math/big"
	"slices"
	"testing"

	"couplant/api"
)

// huge is the greatest number there is.
const huge = math.MaxInt

// expect compares a result and an error with the ones that are promised. As
// texts, nil and an empty list are the same.
func expect[T any](t *testing.T, what string, got T, e api.Errno, want T, f api.Errno) {
	t.Helper()
	if fmt.Sprint(got) != fmt.Sprint(want) || e != f {
		t.Errorf("%s: %v, error %d; want %v, error %d", what, got, e, want, f)
	}
}

// expectAlike compares two results that are without an error.
func expectAlike[T any](t *testing.T, what string, got, want T) {
	t.Helper()
	expect(t, what, got, api.OK, want, api.OK)
}

// refused expects an error, and beside it the zero value.
func refused[T any](t *testing.T, what string, got T, e, want api.Errno) {
	t.Helper()
	var zero T
	expect(t, what, got, e, zero, want)
}

// must returns a result that has no error.
func must[T any](result T, e api.Errno) T {
	if e != api.OK {
		panic(fmt.Sprint("error ", e))
	}
	return result
}

// frac returns a fraction, a whole number if it has one part alone.
func frac(parts ...int) api.Frac {
	return api.Frac{Num: parts[0], Den: append(parts, 1)[1]}
}

func span(lo, hi int) api.Range { return api.Range{Lo: lo, Hi: hi} }

// scan returns a scan of some columns.
func scan(row, column, columns int, data ...int) api.FlawScan {
	return api.FlawScan{Row: row, Column: column, Rows: len(data) / columns, Columns: columns, Data: data}
}

// six is the scan of the chapter's first example.
func six() []api.FlawScan { return []api.FlawScan{scan(0, 0, 3, 5, 0, 7, 0, 6, 0)} }

// column is the scan of the chapter's third example.
func column() []api.FlawScan { return []api.FlawScan{scan(0, 0, 1, 1, 4, 8, 5, 2)} }

// cells returns cells of rows and columns, one after the other.
func cells(numbers ...int) [][2]int {
	var l [][2]int
	for pair := range slices.Chunk(numbers, 2) {
		l = append(l, [2]int(pair))
	}
	return l
}

// area returns an area.
func area(row, column, level int, numbers ...int) api.FlawArea {
	return api.FlawArea{Cells: cells(numbers...), Peak: [2]int{row, column}, Level: level}
}

// mark returns a mark of ranges.
func mark(name string, lo, hi, up, down, level int) api.FlawMark {
	return api.FlawMark{Name: name, Along: span(lo, hi), Depth: span(up, down), Level: level}
}

// three is the marks of the chapter's fifth example.
func three() []api.FlawMark {
	return []api.FlawMark{mark("a", 0, 100, 0, 10, 0), mark("b", 150, 200, 0, 10, 0), mark("c", 260, 300, 0, 10, 0)}
}

// two and other are the lists of the chapter's sixth example.
func two() []api.FlawMark {
	return []api.FlawMark{mark("a", 0, 10, 0, 0, 0), mark("b", 20, 30, 0, 0, 0)}
}

func other() []api.FlawMark {
	return []api.FlawMark{mark("c", 12, 18, 0, 0, 0)}
}

func rule(along, down int, share api.Frac) api.FlawRule {
	return api.FlawRule{Along: along, Down: down, Share: share}
}

// numbered returns marks with names of their own.
func numbered(l []api.FlawMark) []api.FlawMark {
	l = slices.Clone(l)
	for n := range l {
		l[n].Name = fmt.Sprint("m", n)
	}
	return l
}

// numbers makes the same numbers in each run of the tests.
type numbers uint64

// from returns a number from least to most.
func (n *numbers) from(least, most int) int {
	*n = *n*6364136223846793005 + 1442695040888963407
	return least + int(uint64(*n>>33)%uint64(most-least+1))
}

// isOnce returns true once in so many times.
func (n *numbers) isOnce(times int) bool {
	return n.from(1, times) == 1
}

// shuffled returns a list in some other order.
func shuffled[T any](n *numbers, l []T) []T {
	l = slices.Clone(l)
	for k := range l {
		j := n.from(k, len(l)-1)
		l[k], l[j] = l[j], l[k]
	}
	return l
}

// scans returns scans that lie close to each other, with amplitudes up to some
// greatest one.
func (n *numbers) scans(count, most int) []api.FlawScan {
	var l []api.FlawScan
	for range count {
		s := api.FlawScan{Row: n.from(-4, 4), Column: n.from(-4, 4), Rows: n.from(1, 6), Columns: n.from(1, 6)}
		for range s.Rows * s.Columns {
			s.Data = append(s.Data, n.from(0, most))
		}
		l = append(l, s)
	}
	return l
}

// span returns a range between places that are at most so far away, and at most
// so long.
func (n *numbers) span(most, length int) api.Range {
	lo := n.from(-most, most)
	return span(lo, lo+n.from(0, length))
}

// marks returns marks with names of their own.
func (n *numbers) marks(count, most int) []api.FlawMark {
	var l []api.FlawMark
	for range count {
		l = append(l, api.FlawMark{Along: n.span(most, most/4+1), Depth: n.span(most/2, most/4+1), Level: n.from(0, 9)})
	}
	return numbered(l)
}

// rule returns a rule whose gaps are at most so great.
func (n *numbers) rule(most int) api.FlawRule {
	share := []api.Frac{frac(0), frac(1, 4), frac(1, 2), frac(1), frac(7, 3), frac(99, 100), frac(4)}
	return rule(n.from(0, most), n.from(0, most), share[n.from(0, len(share)-1)])
}

// amplitudeOf returns the amplitude of a cell, by definition, and whether it is
// known.
func amplitudeOf(l []api.FlawScan, cell [2]int) (int, bool) {
	greatest, isKnown := 0, false
	for _, s := range l {
		row, column := cell[0]-s.Row, cell[1]-s.Column
		if 0 <= row && row < s.Rows && 0 <= column && column < s.Columns {
			greatest, isKnown = max(greatest, s.Data[row*s.Columns+column]), true
		}
	}
	return greatest, isKnown
}

// cellsOf returns the cells of scans that are known and have at least a level,
// in their order.
func cellsOf(l []api.FlawScan, level int) [][2]int {
	var all [][2]int
	for row := -10; row <= 10; row++ {
		for column := -10; column <= 10; column++ {
			cell := [2]int{row, column}
			if amplitude, isKnown := amplitudeOf(l, cell); isKnown && amplitude >= level {
				all = append(all, cell)
			}
		}
	}
	return all
}

// touch returns whether two cells are neighbours, by definition.
func touch(a, b [2]int, corners bool) bool {
	row, column := max(a[0]-b[0], b[0]-a[0]), max(a[1]-b[1], b[1]-a[1])
	return row+column == 1 || corners && row == 1 && column == 1
}

// areasOf returns all areas of an ask, by definition: each cell takes the least
// number that one of its neighbours has, until no number changes.
func areasOf(l []api.FlawScan, x api.FlawAsk) []api.FlawArea {
	all := cellsOf(l, x.Level)
	number := make([]int, len(all))
	for k := range all {
		number[k] = k
	}
	for hasChanged := true; hasChanged; {
		hasChanged = false
		for k := range all {
			for j := range all {
				if touch(all[k], all[j], x.Corners) && number[j] < number[k] {
					number[k], hasChanged = number[j], true
				}
			}
		}
	}
	var areas []api.FlawArea
	for k := range all {
		a := api.FlawArea{Level: -1}
		for j, cell := range all {
			if number[j] != k {
				continue
			}
			a.Cells = append(a.Cells, cell)
			if amplitude, _ := amplitudeOf(l, cell); amplitude > a.Level {
				a.Peak, a.Level = cell, amplitude
			}
		}
		if len(a.Cells) > 0 {
			areas = append(areas, a)
		}
	}
	return areas
}

// ratio returns a / b.
func ratio(a, b int) *big.Rat { return big.NewRat(int64(a), int64(b)) }

// apart returns the gap of two ranges, by definition.
func apart(a, b api.Range) int {
	switch {
	case a.Hi < b.Lo:
		return b.Lo - a.Hi
	case b.Hi < a.Lo:
		return a.Lo - b.Hi
	}
	return 0
}

// isAllowed returns whether a gap is at most a length and a share of a lesser
// one.
func isAllowed(gap, length int, share api.Frac, lesser int) bool {
	allowed := new(big.Rat).Mul(ratio(share.Num, share.Den), ratio(lesser, 1))
	return ratio(gap, 1).Cmp(allowed.Add(allowed, ratio(length, 1))) <= 0
}

// interact returns whether two marks interact, by definition.
func interact(a, b api.FlawMark, r api.FlawRule) bool {
	length := min(a.Along.Hi-a.Along.Lo, b.Along.Hi-b.Along.Lo)
	height := min(a.Depth.Hi-a.Depth.Lo, b.Depth.Hi-b.Depth.Lo)
	return isAllowed(apart(a.Along, b.Along), r.Along, r.Share, length) &&
		isAllowed(apart(a.Depth, b.Depth), r.Down, r.Share, height)
}

// hull returns the hull of some marks of a list, by definition.
func hull(l []api.FlawMark, some []int) api.FlawMark {
	h := l[some[0]]
	for _, k := range some {
		m := l[k]
		h.Along = span(min(h.Along.Lo, m.Along.Lo), max(h.Along.Hi, m.Along.Hi))
		h.Depth = span(min(h.Depth.Lo, m.Depth.Lo), max(h.Depth.Hi, m.Depth.Hi))
		h.Level = max(h.Level, m.Level)
	}
	return h
}

// groupsOf returns the groups of marks, by definition: some two groups that
// interact become one, as long as there are two.
func groupsOf(l []api.FlawMark, r api.FlawRule, n *numbers) [][]int {
	var groups [][]int
	for k := range l {
		groups = append(groups, []int{k})
	}
	for {
		var two [][2]int
		for k := range groups {
			for j := range k {
				if interact(hull(l, groups[j]), hull(l, groups[k]), r) {
					two = append(two, [2]int{j, k})
				}
			}
		}
		if len(two) == 0 {
			break
		}
		pair := two[n.from(0, len(two)-1)]
		groups[pair[0]] = append(groups[pair[0]], groups[pair[1]]...)
		groups = slices.Delete(groups, pair[1], pair[1]+1)
	}
	for _, g := range groups {
		slices.Sort(g)
	}
	slices.SortFunc(groups, slices.Compare[[]int])
	return groups
}

// alike returns whether two marks are alike, by definition.
func alike(a, b api.FlawMark, slack int) bool {
	return apart(a.Along, b.Along) <= slack && apart(a.Depth, b.Depth) <= slack
}

// mostPairs returns the number of the most right pairs of two lists, the first
// of which has those marks left from some number on: each mark of it has one of
// those of the other list that are not taken, or none.
func mostPairs(a, b []api.FlawMark, slack, from, taken int) int {
	if from == len(a) {
		return 0
	}
	most := mostPairs(a, b, slack, from+1, taken)
	for k := range b {
		if taken>>k&1 == 0 && alike(a[from], b[k], slack) {
			most = max(most, 1+mostPairs(a, b, slack, from+1, taken|1<<k))
		}
	}
	return most
}

// fault is something that makes an argument wrong, and what is told then.
type fault[T any] struct {
	spoil func(x *T)
	n     int
	want  api.Errno
}

// eachFault has every fault judged alone, and together with all that are told
// behind it.
func eachFault[T any](fresh func() T, faults []fault[T], judge func(x T, n int, want api.Errno)) {
	for k, f := range faults {
		x := fresh()
		f.spoil(&x)
		judge(x, f.n, f.want)
		x = fresh()
		for j := len(faults) - 1; j >= k; j-- {
			faults[j].spoil(&x)
		}
		judge(x, f.n, f.want)
	}
}

// wrongScans returns scans for each error that CheckScans may tell.
func wrongScans() map[api.Errno][]api.FlawScan {
	return map[api.Errno][]api.FlawScan{
		api.ErrLarge: make([]api.FlawScan, 7),
		api.ErrRange: {scan(0, 0, 1, 1), scan(0, 0, 1, -1)},
		api.ErrShape: {{Rows: 1, Columns: 1}},
	}
}

// wrongAsks returns asks that are none.
func wrongAsks() []api.FlawAsk {
	return []api.FlawAsk{{Level: -1}, {Level: 1000000001}, {Level: huge, Corners: true}, {Level: -huge - 1}}
}

// wrongMark returns marks for each error that they may have.
func wrongMarks() map[api.Errno]api.FlawMark {
	return map[api.Errno]api.FlawMark{
		api.ErrName:  mark("", 0, 0, 0, 0, 0),
		api.ErrRange: mark("w", 0, 1000001, 0, 0, 0),
		api.ErrOrder: mark("w", 0, 0, 1, 0, 0),
	}
}

// wrongLists returns marks for each error that lists of them may have.
func wrongLists() map[api.Errno][]api.FlawMark {
	l := map[api.Errno][]api.FlawMark{
		api.ErrLarge:  make([]api.FlawMark, 21),
		api.ErrExists: append(three(), mark("b", 0, 0, 0, 0, 0)),
	}
	for e, m := range wrongMarks() {
		l[e] = append(three(), m)
	}
	return l
}

// wrongRules returns rules for each error that CheckRule may tell.
func wrongRules() map[api.Errno]api.FlawRule {
	return map[api.Errno]api.FlawRule{
		api.ErrRange: rule(0, -1, frac(0)),
		api.ErrForm:  rule(0, 0, frac(0, 2)),
	}
}

// wrongSlacks returns numbers that are no slacks.
func wrongSlacks() []int { return []int{-1, 100001, huge, -huge - 1} }
