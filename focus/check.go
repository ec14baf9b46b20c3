package focus

import (
	"couplant/api"
	"couplant/bench"
	"couplant/check"
	"couplant/ray"
	"couplant/trace"
	"couplant/whole"
)

// mostParts is how many parts a drop may divide a power into.
const mostParts = 1000

// CheckGrid returns the error of a grid.
func CheckGrid(g api.FocusGrid) api.Errno {
	e := check.First(
		check.Place(g.From),
		sidesError(g),
		check.Within(g.Step, 1, api.MaxGridStep),
	)
	if e != api.OK {
		return e
	}
	last := grid{g}.last()
	return check.Unless(last.X <= api.MaxPlace && last.Z <= api.MaxPlace, api.ErrLarge)
}

// sidesError returns the error of how many columns and rows there are.
func sidesError(g api.FocusGrid) api.Errno {
	return check.First(
		check.Within(g.Columns, 1, api.MaxGridSide),
		check.Within(g.Rows, 1, api.MaxGridSide),
	)
}

// CheckTask returns the error of a task, and the number of the element that has
// it.
func CheckTask(t api.FocusTask) (int, api.Errno) {
	if n, e := bench.CheckArray(t.Array); e != api.OK {
		return n, e
	}
	_, e := trace.CheckMatrix(t.Matrix)
	e = check.First(
		e,
		check.Unless(t.Matrix.Elements == len(t.Array.Elements), api.ErrClash),
		CheckGrid(t.Grid),
	)
	if e != api.OK {
		return 0, e
	}
	thick := t.Array.Out.Thick
	return 0, check.First(
		check.Depth(t.Grid.From.Z, thick),
		check.Depth(grid{t.Grid}.last().Z, thick),
	)
}

// CheckDeal accepts a deal, and returns how many workers have a firing.
func CheckDeal(elements int, deal [][]int) (int, api.Errno) {
	e := check.First(
		check.Within(elements, 1, api.MaxElements),
		check.Unless(len(deal) <= api.MaxFocusShares, api.ErrLarge),
	)
	if e != api.OK {
		return 0, e
	}
	busy := 0
	stood := map[int]bool{}
	for _, firings := range deal {
		if e := firingsError(firings, elements, stood); e != api.OK {
			return 0, e
		}
		if len(firings) > 0 {
			busy++
		}
	}
	if len(stood) < elements {
		return 0, api.ErrGap
	}
	return busy, api.OK
}

// firingsError returns the error of firings, and adds them to those that stood
// before.
func firingsError(firings []int, elements int, stood map[int]bool) api.Errno {
	for _, f := range firings {
		e := check.First(
			check.Item(f, elements),
			check.Unless(!stood[f], api.ErrDouble),
		)
		if e != api.OK {
			return e
		}
		stood[f] = true
	}
	return api.OK
}

func taskError(t api.FocusTask) api.Errno {
	_, e := CheckTask(t)
	return e
}

// cellError returns the error of a task and of a cell of it.
func cellError(t api.FocusTask, cell int) api.Errno {
	return check.First(taskError(t), check.Item(cell, grid{t.Grid}.cells()))
}

// pairError returns the error of a task, and of a cell and a pair of it.
func pairError(t api.FocusTask, cell int, pair [2]int) api.Errno {
	return check.First(cellError(t, cell), check.Pair(pair, len(t.Array.Elements)))
}

// valueError returns the error of a value of an image.
func valueError(_ int, value complex128) api.Errno {
	x, y := real(value), imag(value)
	return check.First(
		check.Unless(whole.IsWhole(x) && whole.IsWhole(y), api.ErrWhole),
		partError(x),
		partError(y),
	)
}

func partError(x float64) api.Errno {
	return check.Unless(-api.MaxImagePart <= x && x <= api.MaxImagePart, api.ErrRange)
}

// powersError returns the error of a grid and of the powers of its cells.
func powersError(g api.FocusGrid, powers []int) api.Errno {
	e := check.First(
		CheckGrid(g),
		check.Unless(len(powers) == grid{g}.cells(), api.ErrShape),
	)
	if e != api.OK {
		return e
	}
	_, e = check.Each(powers, func(_, power int) api.Errno {
		return check.Within(power, 0, api.MaxPower)
	})
	return e
}

func dropError(x api.FocusDrop, cells int) api.Errno {
	return check.First(
		check.Item(x.Cell, cells),
		check.Within(x.Num, 1, x.Den),
		check.Within(x.Den, 1, mostParts),
	)
}

// modesError returns the error of modes that are compared in a plate.
func modesError(modes [][2]api.RayMode, thick int) api.Errno {
	if e := check.Count(len(modes), api.MaxFocusModes); e != api.OK {
		return e
	}
	_, e := check.Each(modes, func(_ int, m [2]api.RayMode) api.Errno {
		return check.First(
			ray.CheckMode(m[0]),
			ray.CheckMode(m[1]),
			check.Unless(m[0].Thick == thick && m[1].Thick == thick, api.ErrUnit),
		)
	})
	return e
}
