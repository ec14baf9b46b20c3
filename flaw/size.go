package flaw

import (
	"couplant/api"
	"couplant/check"
	"couplant/whole"
)

// wayParts is by what the product of a time there and back, in picoseconds, and
// a speed is divided to get the way there, in hundredths of a millimetre.
const wayParts = 20000000

// DropRange returns the length in cells of the drop from a cell to a share,
// along rows (0) or columns (1).
func DropRange(l []api.FlawScan, peak [3]int, share api.Frac) (api.Range, api.Errno) {
	along := peak[2]
	if e := check.First(scansError(l), dropError(along, share)); e != api.OK {
		return api.Range{}, e
	}
	k := knownBy(l)
	cell := [2]int{peak[0], peak[1]}
	amplitude, isKnown := k[cell]
	e := check.First(
		check.Unless(isKnown, api.ErrMissing),
		check.Unless(amplitude != 0, api.ErrZero),
	)
	if e != api.OK {
		return api.Range{}, e
	}
	isIn := func(other int) bool { return other*share.Den >= share.Num*amplitude }
	ahead, isAheadKnown := k.run(cell, along, -1, isIn)
	behind, isBehindKnown := k.run(cell, along, 1, isIn)
	if !isAheadKnown || !isBehindKnown {
		return api.Range{}, api.ErrGap
	}
	length := ahead + behind
	return api.Range{Lo: length, Hi: length + 2}, api.OK
}

// run returns how many known cells follow a cell on one of its sides, one after
// the other, whose amplitudes are in; and whether the next one is known, too.
func (k known) run(cell [2]int, along, side int, isIn func(amplitude int) bool) (int, bool) {
	for count := 0; ; count++ {
		cell[along] += side
		amplitude, isKnown := k[cell]
		if !isKnown || !isIn(amplitude) {
			return count, isKnown
		}
	}
}

// TipDepth returns the depth of a tip.
func TipDepth(x api.FlawTip) (api.Range, api.Errno) {
	if e := tipError(x); e != api.OK {
		return api.Range{}, e
	}
	least := whole.DivideDown(x.Time.Lo*x.Speed, wayParts)
	most := whole.DivideUp(x.Time.Hi*x.Speed, wayParts)
	if most < x.Offset.Lo {
		return api.Range{}, api.ErrNone
	}
	return api.Range{
		Lo: whole.RootDown(max(0, least*least-x.Offset.Hi*x.Offset.Hi)),
		Hi: whole.RootUp(most*most - x.Offset.Lo*x.Offset.Lo),
	}, api.OK
}

// HeightOf returns how much deeper the lower one of two tips is than the upper
// one.
func HeightOf(upper, lower api.Range) (api.Range, api.Errno) {
	e := check.First(
		depthError(upper),
		depthError(lower),
		check.Unless(lower.Hi >= upper.Lo, api.ErrBreak),
	)
	if e != api.OK {
		return api.Range{}, e
	}
	return api.Range{
		Lo: max(0, lower.Lo-upper.Hi),
		Hi: lower.Hi - upper.Lo,
	}, api.OK
}
