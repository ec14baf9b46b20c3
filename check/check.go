// Package check is no layer: it helps the layers to tell which error of their
// arguments is the first one.
package check

import (
	"couplant/api"
	"couplant/whole"
)

// First returns the first of several errors, OK if there is none.
func First(errors ...api.Errno) api.Errno {
	for _, e := range errors {
		if e != api.OK {
			return e
		}
	}
	return api.OK
}

// Unless returns an error where something does not hold.
func Unless(holds bool, e api.Errno) api.Errno {
	if holds {
		return api.OK
	}
	return e
}

// Within returns ErrRange for a number that is not from least to most.
func Within(n, least, most int) api.Errno {
	return Unless(least <= n && n <= most, api.ErrRange)
}

// Each returns the number and the error of the first item of a list that has
// one; wrong tells the error of an item, with its number.
func Each[T any](list []T, wrong func(n int, item T) api.Errno) (int, api.Errno) {
	for n, item := range list {
		if e := wrong(n, item); e != api.OK {
			return n, e
		}
	}
	return 0, api.OK
}

// Count returns the error of how many items a list has, where there must be
// some, and at most so many.
func Count(n, most int) api.Errno {
	return First(
		Unless(n > 0, api.ErrShape),
		Unless(n <= most, api.ErrLarge),
	)
}

// Place returns the error of a place, wherever it may be.
func Place(p api.Spot) api.Errno {
	return First(
		Within(p.X, -api.MaxPlace, api.MaxPlace),
		Within(p.Z, -api.MaxPlace, api.MaxPlace),
	)
}

// Speed returns the error of a speed.
func Speed(v int) api.Errno {
	return Within(v, api.LeastSpeed, api.MaxSpeed)
}

// Lowest returns ErrForm for a fraction that is not in lowest terms with Den
// above 0, whatever its numbers are.
func Lowest(f api.Frac) api.Errno {
	return Unless(f.Den > 0 && whole.CommonDivisor(f.Num, f.Den) == 1, api.ErrForm)
}
