package focus

import (
	"iter"

	"couplant/api"
	"couplant/check"
)

// maxCells is how many cells a grid may have, and values an image.
const maxCells = api.MaxGridSide * api.MaxGridSide

// grid is a grid that is right.
type grid struct{ api.FocusGrid }

// cells returns how many cells there are.
func (g grid) cells() int {
	return g.Columns * g.Rows
}

// spot returns the place of a cell.
func (g grid) spot(cell int) api.Spot {
	return api.Spot{
		X: g.From.X + cell%g.Columns*g.Step,
		Z: g.From.Z + cell/g.Columns*g.Step,
	}
}

// last returns the place of the last cell.
func (g grid) last() api.Spot {
	return g.spot(g.cells() - 1)
}

// neighbours yields the cells around a cell.
func (g grid) neighbours(cell int) iter.Seq[int] {
	column, row := cell%g.Columns, cell/g.Columns
	return func(yield func(int) bool) {
		for r := max(row-1, 0); r <= min(row+1, g.Rows-1); r++ {
			for c := max(column-1, 0); c <= min(column+1, g.Columns-1); c++ {
				if n := r*g.Columns + c; n != cell && !yield(n) {
					return
				}
			}
		}
	}
}

// SpotAt returns the place of a cell.
func SpotAt(g api.FocusGrid, cell int) (api.Spot, api.Errno) {
	x := grid{g}
	if e := check.First(CheckGrid(g), check.Item(cell, x.cells())); e != api.OK {
		return api.Spot{}, e
	}
	return x.spot(cell), api.OK
}
