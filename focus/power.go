package focus

import (
	"slices"

	"couplant/api"
	"couplant/check"
)

// powerOf returns the power of a value that is right.
func powerOf(value complex128) int {
	x, y := int(real(value)), int(imag(value))
	return x*x + y*y
}

func powersOf(image []complex128) []int {
	var powers []int
	for _, value := range image {
		powers = append(powers, powerOf(value))
	}
	return powers
}

// Powers returns the powers of the values of an image.
func Powers(image []complex128) ([]int, api.Errno) {
	if len(image) > maxCells {
		return nil, api.ErrLarge
	}
	if _, e := check.Each(image, valueError); e != api.OK {
		return nil, e
	}
	return powersOf(image), api.OK
}

// Peak returns the first cell with the greatest power.
func Peak(g api.FocusGrid, powers []int) (int, api.Errno) {
	if e := powersError(g, powers); e != api.OK {
		return 0, e
	}
	greatest := slices.Max(powers)
	if greatest == 0 {
		return 0, api.ErrNone
	}
	return slices.Index(powers, greatest), api.OK
}

// Peaks returns all peaks.
func Peaks(g api.FocusGrid, powers []int) ([]int, api.Errno) {
	if e := powersError(g, powers); e != api.OK {
		return nil, e
	}
	x := grid{g}
	return cellsWhere(powers, func(cell int) bool { return x.isPeak(powers, cell) }), api.OK
}

// isPeak returns whether a cell is a peak: of cells side by side with one power
// the first one counts.
func (g grid) isPeak(powers []int, cell int) bool {
	power := powers[cell]
	for n := range g.neighbours(cell) {
		if powers[n] > power || powers[n] == power && n < cell {
			return false
		}
	}
	return power > 0
}

// cellsWhere returns the cells for which a condition holds.
func cellsWhere(powers []int, holds func(cell int) bool) []int {
	var cells []int
	for cell := range powers {
		if holds(cell) {
			cells = append(cells, cell)
		}
	}
	return cells
}

// Above returns the cells whose power is at least a level.
func Above(g api.FocusGrid, powers []int, level int) ([]int, api.Errno) {
	e := check.First(powersError(g, powers), check.Unless(level >= 0, api.ErrRange))
	if e != api.OK {
		return nil, e
	}
	return cellsWhere(powers, func(cell int) bool { return powers[cell] >= level }), api.OK
}

// DropOf returns the reach of a drop.
func DropOf(g api.FocusGrid, powers []int, x api.FocusDrop) (api.Range, api.Errno) {
	e := check.First(powersError(g, powers), dropError(x, len(powers)))
	if e != api.OK {
		return api.Range{}, e
	}
	at, line := grid{g}.line(powers, x)
	isReached := func(n int) bool { return line[n]*x.Den >= line[at]*x.Num }
	reach := api.Range{Lo: at, Hi: at}
	for reach.Lo > 0 && isReached(reach.Lo-1) {
		reach.Lo--
	}
	for reach.Hi < len(line)-1 && isReached(reach.Hi+1) {
		reach.Hi++
	}
	return reach, api.OK
}

// line returns the powers of the row, or of the column, that a drop is asked
// along, and the number of its cell among these.
func (g grid) line(powers []int, x api.FocusDrop) (at int, line []int) {
	column, row := x.Cell%g.Columns, x.Cell/g.Columns
	if !x.Down {
		return column, powers[row*g.Columns : (row+1)*g.Columns]
	}
	for r := range g.Rows {
		line = append(line, powers[r*g.Columns+column])
	}
	return row, line
}
