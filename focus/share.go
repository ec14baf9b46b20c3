package focus

import (
	"slices"
	"sync"

	"couplant/api"
	"couplant/check"
)

// fires returns the condition that the firing of a pair is one of some.
func fires(firings []int) func(pair [2]int) bool {
	return func(pair [2]int) bool { return slices.Contains(firings, pair[0]) }
}

// Share returns the image that has the pairs of some firings alone.
func Share(t api.FocusTask, firings []int) ([]complex128, api.Errno) {
	if e := taskError(t); e != api.OK {
		return nil, e
	}
	if e := firingsError(firings, len(t.Array.Elements), map[int]bool{}); e != api.OK {
		return nil, e
	}
	x := taskOf(t)
	return x.image(x.ways(), fires(firings)), api.OK
}

// Merged returns the sum of images.
func Merged(l [][]complex128) ([]complex128, api.Errno) {
	if e := shapeError(l); e != api.OK {
		return nil, e
	}
	for cell := range l[0] {
		_, e := check.Each(l, func(_ int, image []complex128) api.Errno {
			return valueError(cell, image[cell])
		})
		if e != api.OK {
			return nil, e
		}
	}
	return sumOf(l), api.OK
}

// shapeError returns the error of images that cannot be merged, whatever their
// values are.
func shapeError(l [][]complex128) api.Errno {
	if len(l) == 0 {
		return api.ErrShape
	}
	values := len(l[0])
	_, e := check.Each(l, func(_ int, image []complex128) api.Errno {
		return check.Unless(len(image) == values, api.ErrShape)
	})
	return check.First(
		e,
		check.Unless(len(l) <= api.MaxFocusShares && values <= maxCells, api.ErrLarge),
	)
}

// sumOf returns the sum of images that can be merged. It begins with 0, so that
// no part of it is -0.
func sumOf(l [][]complex128) []complex128 {
	sum := make([]complex128, len(l[0]))
	for _, image := range l {
		for cell, value := range image {
			sum[cell] += value
		}
	}
	return sum
}

// Dealt returns the image, each worker having made its share of it.
func Dealt(t api.FocusTask, deal [][]int) ([]complex128, api.Errno) {
	if e := taskError(t); e != api.OK {
		return nil, e
	}
	if _, e := CheckDeal(len(t.Array.Elements), deal); e != api.OK {
		return nil, e
	}
	x := taskOf(t)
	w := x.ways()
	shares := make([][]complex128, len(deal))
	var workers sync.WaitGroup
	for n, firings := range deal {
		workers.Go(func() { shares[n] = x.image(w, fires(firings)) })
	}
	workers.Wait()
	return sumOf(shares), api.OK
}
