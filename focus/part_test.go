package focus_test

import (
	"slices"
	"testing"

	"couplant/api"
	"couplant/focus"
)

// lives returns whether a pair has no dead element.
func lives(dead []int) func([2]int) bool {
	return func(pair [2]int) bool {
		return !slices.Contains(dead, pair[0]) && !slices.Contains(dead, pair[1])
	}
}

func checkDead(t *testing.T, x api.FocusTask, dead []int) {
	t.Helper()
	image, counts := imageOf(x, lives(dead))
	expectAlike(t, "Coverage", must(focus.Coverage(x, dead)), counts)
	expectAlike(t, "WithoutDead", must(focus.WithoutDead(x, dead)), image)
}

// P5.6

func TestDeadElements(t *testing.T) {
	expectAlike(t, "Coverage", must(focus.Coverage(one(), nil)), []int{1})
	expectAlike(t, "Coverage", must(focus.Coverage(one(), []int{0})), []int{0})
	expectAlike(t, "WithoutDead", must(focus.WithoutDead(one(), []int{0})), []complex128{0})
	late := one()
	late.Array.Times.First = 4050000
	expectAlike(t, "Coverage", must(focus.Coverage(late, nil)), []int{0})
	for _, dead := range [][]int{nil, {}, {0}, {1}, {0, 1}} {
		checkDead(t, two(), dead)
	}
	var n numbers = 8
	for range 150 {
		x := n.task()
		checkDead(t, x, n.some(len(x.Array.Elements)))
	}
}

func TestDeadElementsAreRefused(t *testing.T) {
	judge := func(x api.FocusTask, dead []int, want api.Errno) {
		t.Helper()
		l, e := focus.Coverage(x, dead)
		refused(t, "Coverage", l, e, want)
		z, e := focus.WithoutDead(x, dead)
		refused(t, "WithoutDead", z, e, want)
	}
	for want, x := range wrongTasks() {
		judge(x, []int{-1}, want)
		judge(x, nil, want)
	}
	for _, x := range []struct {
		dead []int
		want api.Errno
	}{
		{[]int{2}, api.ErrMissing}, {[]int{0, -1}, api.ErrMissing}, {[]int{huge}, api.ErrMissing}, {[]int{-huge - 1}, api.ErrMissing},
		{[]int{0, 0}, api.ErrOrder}, {[]int{1, 0}, api.ErrOrder},
		// The first element that is wrong decides.
		{[]int{0, 0, 2}, api.ErrOrder}, {[]int{0, 2, 0}, api.ErrMissing}, {[]int{1, 1, 1}, api.ErrOrder},
	} {
		judge(two(), x.dead, x.want)
	}
}

// bestOf returns the best modes and their powers, by definition.
func bestOf(t api.FocusTask, modes [][2]api.RayMode) (best, powers []int) {
	for cell := range spots(t.Grid) {
		var l []int
		for _, m := range modes {
			t.Array.Out, t.Array.Back = m[0], m[1]
			value, _ := valueOf(t, cell, every)
			l = append(l, int(real(value)*real(value)+imag(value)*imag(value)))
		}
		powers = append(powers, slices.Max(l))
		best = append(best, slices.Index(l, slices.Max(l)))
	}
	return best, powers
}

func checkModes(t *testing.T, x api.FocusTask, modes [][2]api.RayMode) {
	t.Helper()
	best, powers := bestOf(x, modes)
	expectAlike(t, "BestModes", must(together(focus.BestModes(x, modes))), found[[]int, []int]{best, powers})
}

func TestBestModes(t *testing.T) {
	x := one()
	x.Grid.Columns = 3
	m := x.Array.Out
	skip := m
	skip.Skips = 1
	checkModes(t, x, [][2]api.RayMode{{m, m}})
	checkModes(t, x, [][2]api.RayMode{{skip, skip}, {m, m}})
	expectAlike(t, "BestModes", must(together(focus.BestModes(one(), [][2]api.RayMode{{skip, skip}, {skip, m}, {m, m}, {m, m}}))), found[[]int, []int]{[]int{2}, []int{1300}})
	// Of modes without power the first one is told.
	expectAlike(t, "BestModes", must(together(focus.BestModes(one(), [][2]api.RayMode{{skip, skip}, {skip, m}}))), found[[]int, []int]{[]int{0}, []int{0}})
	var n numbers = 9
	for range 100 {
		x := n.task()
		var modes [][2]api.RayMode
		for range n.from(1, 4) {
			modes = append(modes, [2]api.RayMode{n.mode(x.Array.Out.Thick), n.mode(x.Array.Out.Thick)})
		}
		modes[n.from(0, len(modes)-1)] = [2]api.RayMode{x.Array.Out, x.Array.Back}
		checkModes(t, x, modes)
	}
}

func TestBestModesRefuses(t *testing.T) {
	m := one().Array.Out
	slow, skips, thin := m, m, m
	slow.Metal = 499
	skips.Skips = 5
	thin.Thick = 999
	judge := func(x api.FocusTask, modes [][2]api.RayMode, want api.Errno) {
		t.Helper()
		l, e := together(focus.BestModes(x, modes))
		refused(t, "BestModes", l, e, want)
	}
	for want, x := range wrongTasks() {
		judge(x, nil, want)
		judge(x, [][2]api.RayMode{{m, m}}, want)
	}
	for _, x := range []struct {
		modes [][2]api.RayMode
		want  api.Errno
	}{
		{nil, api.ErrShape},
		{make([][2]api.RayMode, 5), api.ErrLarge},
		{[][2]api.RayMode{{m, m}, {m, m}, {m, m}, {m, m}, {m, m}}, api.ErrLarge},
		{[][2]api.RayMode{{slow, m}}, api.ErrRange},
		{[][2]api.RayMode{{m, m}, {m, skips}}, api.ErrRange},
		{[][2]api.RayMode{{thin, m}}, api.ErrUnit},
		{[][2]api.RayMode{{m, thin}}, api.ErrUnit},
		{[][2]api.RayMode{{thin, thin}}, api.ErrUnit},
		{[][2]api.RayMode{{thin, slow}}, api.ErrRange},
		{[][2]api.RayMode{{m, thin}, {slow, m}}, api.ErrUnit},
		{[][2]api.RayMode{{m, skips}, {thin, m}}, api.ErrRange},
	} {
		judge(one(), x.modes, x.want)
	}
}
