package focus_test

import (
	"math"
	"testing"

	"couplant/api"
	"couplant/focus"
)

// P5.1

func TestCheckGrid(t *testing.T) {
	for _, x := range []struct {
		spoil func(g *api.FocusGrid)
		want  api.Errno
	}{
		{func(g *api.FocusGrid) {}, api.OK},
		{func(g *api.FocusGrid) { g.From = api.Spot{X: -100000, Z: -100000} }, api.OK},
		{func(g *api.FocusGrid) { g.From, g.Columns = api.Spot{X: 100000, Z: 100000}, 1; g.Rows = 1 }, api.OK},
		{func(g *api.FocusGrid) { g.Columns, g.Rows, g.Step = 40, 40, 2564 }, api.OK},
		{func(g *api.FocusGrid) { g.Columns, g.Rows, g.Step = 1, 11, 10000 }, api.OK},
		{func(g *api.FocusGrid) { g.Columns, g.Rows, g.Step = 11, 1, 10000 }, api.OK},
		{func(g *api.FocusGrid) { g.From.X = 100001 }, api.ErrRange},
		{func(g *api.FocusGrid) { g.From.X = -100001 }, api.ErrRange},
		{func(g *api.FocusGrid) { g.From.Z = 100001 }, api.ErrRange},
		{func(g *api.FocusGrid) { g.From.Z = -100001 }, api.ErrRange},
		{func(g *api.FocusGrid) { g.From.X = -huge - 1 }, api.ErrRange},
		{func(g *api.FocusGrid) { g.From.Z = huge }, api.ErrRange},
		{func(g *api.FocusGrid) { g.Columns = 0 }, api.ErrRange},
		{func(g *api.FocusGrid) { g.Columns = 41 }, api.ErrRange},
		{func(g *api.FocusGrid) { g.Columns = huge }, api.ErrRange},
		{func(g *api.FocusGrid) { g.Rows = 0 }, api.ErrRange},
		{func(g *api.FocusGrid) { g.Rows = 41 }, api.ErrRange},
		{func(g *api.FocusGrid) { g.Rows = -huge - 1 }, api.ErrRange},
		{func(g *api.FocusGrid) { g.Step = 0 }, api.ErrRange},
		{func(g *api.FocusGrid) { g.Step = 10001 }, api.ErrRange},
		{func(g *api.FocusGrid) { g.Step = huge }, api.ErrRange},
		{func(g *api.FocusGrid) { g.From.X = 99998 }, api.OK},
		{func(g *api.FocusGrid) { g.From.X = 99999 }, api.ErrLarge},
		{func(g *api.FocusGrid) { g.From.Z = 99999 }, api.OK},
		{func(g *api.FocusGrid) { g.From.Z = 100000 }, api.ErrLarge},
		{func(g *api.FocusGrid) { g.Columns, g.Rows, g.Step = 12, 1, 10000 }, api.ErrLarge},
		{func(g *api.FocusGrid) { g.Columns, g.Rows, g.Step = 1, 12, 10000 }, api.ErrLarge},
		// What is not in its range is told ahead of what lies too far.
		{func(g *api.FocusGrid) { g.From.X, g.Step = 100000, 0 }, api.ErrRange},
		{func(g *api.FocusGrid) { g.From.X, g.Rows = 100000, 41 }, api.ErrRange},
	} {
		g := flat(3, 2)
		x.spoil(&g)
		if e := focus.CheckGrid(g); e != x.want {
			t.Errorf("CheckGrid of %v: error %d; want %d", g, e, x.want)
		}
	}
}

func TestSpotAt(t *testing.T) {
	g := api.FocusGrid{From: api.Spot{X: -30, Z: 40}, Columns: 3, Rows: 2, Step: 7}
	for cell, want := range []api.Spot{{X: -30, Z: 40}, {X: -23, Z: 40}, {X: -16, Z: 40}, {X: -30, Z: 47}, {X: -23, Z: 47}, {X: -16, Z: 47}} {
		expectAlike(t, "SpotAt", must(focus.SpotAt(g, cell)), want)
	}
	for _, cell := range wrongNumbers(6) {
		p, e := focus.SpotAt(g, cell)
		refused(t, "SpotAt", p, e, api.ErrMissing)
	}
	for want, g := range wrongGrids() {
		for _, cell := range []int{0, -1, 2} {
			p, e := focus.SpotAt(g, cell)
			refused(t, "SpotAt", p, e, want)
		}
	}
	var n numbers = 1
	for range 100 {
		g := n.grid(2000)
		for cell, want := range spots(g) {
			expectAlike(t, "SpotAt", must(focus.SpotAt(g, cell)), want)
		}
	}
}

// taskFaults are what makes a task of two elements wrong, in the order in which
// it is told.
func taskFaults() []fault[api.FocusTask] {
	nan := float32(math.NaN())
	return []fault[api.FocusTask]{
		{func(t *api.FocusTask) { t.Array.Elements[0].X = 100001 }, 0, api.ErrRange},
		{func(t *api.FocusTask) { t.Array.Elements[1].Z = 0 }, 1, api.ErrKind},
		{func(t *api.FocusTask) { t.Array.Out.Wedge = 499 }, 0, api.ErrRange},
		{func(t *api.FocusTask) { t.Array.Back.Thick++ }, 0, api.ErrUnit},
		{func(t *api.FocusTask) { t.Array.Times.Step = 0 }, 0, api.ErrRange},
		{func(t *api.FocusTask) { t.Matrix.Elements = 17 }, 0, api.ErrRange},
		{func(t *api.FocusTask) { t.Matrix.Buffer = t.Matrix.Buffer[:255] }, 0, api.ErrShape},
		{func(t *api.FocusTask) { t.Matrix.Buffer[1] = 2048 }, 0, api.ErrRange},
		{func(t *api.FocusTask) { t.Matrix.Buffer[2] = nan }, 0, api.ErrWhole},
		{func(t *api.FocusTask) { t.Array.Elements = t.Array.Elements[:1] }, 0, api.ErrClash},
		{func(t *api.FocusTask) { t.Grid.Step = 10001 }, 0, api.ErrRange},
		{func(t *api.FocusTask) { t.Grid.From.X = 99999 }, 0, api.ErrLarge},
		{func(t *api.FocusTask) { t.Grid.From.Z = 901 }, 0, api.ErrBreak},
	}
}

func TestCheckTask(t *testing.T) {
	judge := func(x api.FocusTask, n int, want api.Errno) {
		got, e := focus.CheckTask(x)
		expect(t, "CheckTask", got, e, n, want)
	}
	judge(one(), 0, api.OK)
	judge(two(), 0, api.OK)
	// A matrix with fewer elements, or with more, is right beside others; one
	// element fewer would have the second one not wrong.
	faults := taskFaults()
	clash := faults[9]
	faults = append(faults[:9:9], faults[10:]...)
	eachFault(two, faults, judge)
	for k := range faults[9:] {
		x := two()
		clash.spoil(&x)
		faults[9+k].spoil(&x)
		judge(x, 0, api.ErrClash)
	}
	more := two()
	more.Array.Elements = append(more.Array.Elements, api.Spot{Z: -1})
	judge(more, 0, api.ErrClash)
	more.Matrix.Buffer[0] = -2048
	judge(more, 0, api.ErrRange)
	judge(api.FocusTask{}, 0, api.ErrShape)
	for want, x := range wrongTasks() {
		judge(x, 0, want)
	}
}

func TestTheGridOfATaskLiesInThePlate(t *testing.T) {
	for _, x := range []struct {
		z, rows, step int
		want          api.Errno
	}{
		{1, 1, 1, api.OK}, {999, 1, 10000, api.OK}, {1, 2, 998, api.OK}, {960, 40, 1, api.OK},
		{0, 1, 1, api.ErrBreak}, {0, 2, 400, api.ErrBreak}, {-1, 3, 400, api.ErrBreak}, {-100000, 1, 1, api.ErrBreak},
		{1000, 1, 1, api.ErrBreak}, {1, 2, 999, api.ErrBreak}, {961, 40, 1, api.ErrBreak}, {100000, 1, 1, api.ErrBreak},
		{100000, 2, 1, api.ErrLarge},
	} {
		task := one()
		task.Grid.From.Z, task.Grid.Rows, task.Grid.Step = x.z, x.rows, x.step
		n, e := focus.CheckTask(task)
		expect(t, "CheckTask", n, e, 0, x.want)
	}
}

// P5.4, of deals

func TestCheckDeal(t *testing.T) {
	many := make([][]int, 16)
	for k := range many {
		many[k] = []int{15 - k}
	}
	most := make([][]int, 16)
	most[7] = []int{0}
	for _, x := range []struct {
		elements int
		deal     [][]int
		n        int
		want     api.Errno
	}{
		{2, [][]int{{0}, {1}}, 2, api.OK},
		{2, [][]int{{1, 0}, {}}, 1, api.OK},
		{2, [][]int{{1, 0}, nil, {}}, 1, api.OK},
		{3, [][]int{{}, {2}, {}, {1, 0}}, 2, api.OK},
		{1, [][]int{{0}}, 1, api.OK},
		{1, most, 1, api.OK},
		{16, many, 16, api.OK},
		{2, [][]int{{0}, {0, 1}}, 0, api.ErrDouble},
		{2, [][]int{{0, 0}, {1}}, 0, api.ErrDouble},
		{2, [][]int{{1}}, 0, api.ErrGap},
		{2, [][]int{{0}}, 0, api.ErrGap},
		{16, many[:15], 0, api.ErrGap},
		{1, nil, 0, api.ErrGap},
		{1, make([][]int, 16), 0, api.ErrGap},
		{2, [][]int{{2}}, 0, api.ErrMissing},
		{2, [][]int{{0, 1}, {-1}}, 0, api.ErrMissing},
		{2, [][]int{{huge}, {0, 1}}, 0, api.ErrMissing},
		{2, [][]int{{0, 1, -huge - 1}}, 0, api.ErrMissing},
		// The first firing that is wrong decides.
		{2, [][]int{{0, 0, 2}}, 0, api.ErrDouble},
		{2, [][]int{{0, 2, 0}}, 0, api.ErrMissing},
		{2, [][]int{{0, 1}, {1}, {2}}, 0, api.ErrDouble},
		{2, [][]int{{0}, {5}, {0}}, 0, api.ErrMissing},
		{2, [][]int{{5, 5}}, 0, api.ErrMissing},
		{2, append(most, []int{0}), 0, api.ErrLarge},
		{2, make([][]int, 17), 0, api.ErrLarge},
		{0, nil, 0, api.ErrRange},
		{-1, [][]int{{0}}, 0, api.ErrRange},
		{17, [][]int{{0}}, 0, api.ErrRange},
		{17, make([][]int, 17), 0, api.ErrRange},
		{huge, many, 0, api.ErrRange},
		{-huge - 1, many, 0, api.ErrRange},
	} {
		n, e := focus.CheckDeal(x.elements, x.deal)
		expect(t, "CheckDeal", n, e, x.n, x.want)
	}
}
