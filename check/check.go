// Package check is no layer: it helps the layers to tell which error of their
// arguments is the first one.
package check

import (
	"slices"
	"strings"

	"couplant/api"
	"couplant/whole"
)

// First returns the first of several errors, OK if there is none.
func First(errors ...api.Errno) api.Errno {
	for _, e := range errors {
		if e != api.OK {
			return e
		}
	}
	return api.OK
}

// Unless returns an error where something does not hold.
func Unless(holds bool, e api.Errno) api.Errno {
	if holds {
		return api.OK
	}
	return e
}

// Within returns ErrRange for a number that is not from least to most.
func Within(n, least, most int) api.Errno {
	return Unless(least <= n && n <= most, api.ErrRange)
}

// Range returns the error of a range whose ends are from least to most.
func Range(r api.Range, least, most int) api.Errno {
	return First(
		Within(r.Lo, least, most),
		Within(r.Hi, least, most),
		Unless(r.Lo <= r.Hi, api.ErrOrder),
	)
}

// Each returns the number and the error of the first item of a list that has
// one; wrong tells the error of an item, with its number.
func Each[T any](list []T, wrong func(n int, item T) api.Errno) (int, api.Errno) {
	for n, item := range list {
		if e := wrong(n, item); e != api.OK {
			return n, e
		}
	}
	return 0, api.OK
}

// Name returns ErrName for a text that is no name.
func Name(s string) api.Errno {
	isSized := 1 <= len(s) && len(s) <= api.MaxName
	return Unless(isSized && isLetter(rune(s[0])) && !strings.ContainsFunc(s, isForeign), api.ErrName)
}

func isLetter(r rune) bool {
	return 'A' <= r && r <= 'Z' || 'a' <= r && r <= 'z'
}

// isForeign returns whether a character may stand nowhere in a name.
func isForeign(r rune) bool {
	isDigit := '0' <= r && r <= '9'
	return !isLetter(r) && !isDigit && r != '-'
}

// Fresh returns ErrExists for the item n of a list, if an earlier one has its
// name; nameOf tells the name of an item.
func Fresh[T any](list []T, n int, nameOf func(item T) string) api.Errno {
	hasName := func(earlier T) bool { return nameOf(earlier) == nameOf(list[n]) }
	return Unless(!slices.ContainsFunc(list[:n], hasName), api.ErrExists)
}

// Count returns the error of how many items a list has, where there must be
// some, and at most so many.
func Count(n, most int) api.Errno {
	return First(
		Unless(n > 0, api.ErrShape),
		Unless(n <= most, api.ErrLarge),
	)
}

// Item returns ErrMissing for the number of an item that is not there, of so
// many.
func Item(n, count int) api.Errno {
	return Unless(0 <= n && n < count, api.ErrMissing)
}

// Pair returns ErrMissing for a pair of which an element is not there, of so
// many.
func Pair(pair [2]int, elements int) api.Errno {
	return First(Item(pair[0], elements), Item(pair[1], elements))
}

// Ascends returns ErrOrder for the number n of a list, if it is not greater than
// the one before.
func Ascends(l []int, n int) api.Errno {
	return Unless(n == 0 || l[n-1] < l[n], api.ErrOrder)
}

// Numbers returns the error of the numbers of items, of so many, that are to
// ascend.
func Numbers(l []int, count int) api.Errno {
	_, e := Each(l, func(n, item int) api.Errno {
		return First(Item(item, count), Ascends(l, n))
	})
	return e
}

// Elements returns the error of the elements of an array in the wedge, and the
// number of the one that has it.
func Elements(l []api.Spot) (int, api.Errno) {
	if e := Count(len(l), api.MaxElements); e != api.OK {
		return 0, e
	}
	return Each(l, func(_ int, p api.Spot) api.Errno {
		return First(Place(p), Unless(p.Z < 0, api.ErrKind))
	})
}

// Place returns the error of a place, wherever it may be.
func Place(p api.Spot) api.Errno {
	return First(
		Within(p.X, -api.MaxPlace, api.MaxPlace),
		Within(p.Z, -api.MaxPlace, api.MaxPlace),
	)
}

// Depth returns ErrBreak for a depth that is not inside of a plate.
func Depth(z, thick int) api.Errno {
	return Unless(0 < z && z < thick, api.ErrBreak)
}

// Speed returns the error of a speed.
func Speed(v int) api.Errno {
	return Within(v, api.LeastSpeed, api.MaxSpeed)
}

// Lowest returns ErrForm for a fraction that is not in lowest terms with Den
// above 0, whatever its numbers are.
func Lowest(f api.Frac) api.Errno {
	return Unless(f.Den > 0 && whole.CommonDivisor(f.Num, f.Den) == 1, api.ErrForm)
}

// Ratio returns the error of a fraction that may not be below 0, and whose parts
// are at most so great.
func Ratio(f api.Frac, most int) api.Errno {
	return First(
		Lowest(f),
		Within(f.Num, 0, most),
		Within(f.Den, 1, most),
	)
}
