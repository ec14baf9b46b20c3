package focus

import (
	"slices"

	"couplant/api"
	"couplant/check"
)

// lives returns the condition that no element of a pair is one of the dead.
func lives(dead []int) func(pair [2]int) bool {
	return func(pair [2]int) bool {
		return !slices.Contains(dead, pair[0]) && !slices.Contains(dead, pair[1])
	}
}

// deadError returns the error of a task and of its dead elements.
func deadError(t api.FocusTask, dead []int) api.Errno {
	return check.First(taskError(t), check.Numbers(dead, len(t.Array.Elements)))
}

// Coverage returns for each cell how many pairs without a dead element have a
// number.
func Coverage(t api.FocusTask, dead []int) ([]int, api.Errno) {
	if e := deadError(t, dead); e != api.OK {
		return nil, e
	}
	x := taskOf(t)
	return x.counts(x.ways(), lives(dead)), api.OK
}

// WithoutDead returns the image of the pairs without a dead element.
func WithoutDead(t api.FocusTask, dead []int) ([]complex128, api.Errno) {
	if e := deadError(t, dead); e != api.OK {
		return nil, e
	}
	x := taskOf(t)
	return x.image(x.ways(), lives(dead)), api.OK
}

// BestModes returns for each cell the first mode with the greatest power, and
// this power.
func BestModes(t api.FocusTask, modes [][2]api.RayMode) ([]int, []int, api.Errno) {
	e := check.First(taskError(t), modesError(modes, t.Array.Out.Thick))
	if e != api.OK {
		return nil, nil, e
	}
	x := taskOf(t)
	best, greatest := make([]int, x.cells()), make([]int, x.cells())
	for n, m := range modes {
		x.array.Out, x.array.Back = m[0], m[1]
		for cell, power := range powersOf(x.image(x.ways(), every)) {
			if power > greatest[cell] {
				best[cell], greatest[cell] = n, power
			}
		}
	}
	return best, greatest, api.OK
}
