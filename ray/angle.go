package ray

import (
	"couplant/api"
	"couplant/check"
	"couplant/whole"
)

// CriticalSquare returns the sine squared beyond which nothing passes.
func CriticalSquare(first, second int) (api.Frac, api.Errno) {
	e := check.First(
		check.Speed(first),
		check.Speed(second),
		check.Unless(first < second, api.ErrNone),
	)
	if e != api.OK {
		return api.Frac{}, e
	}
	return whole.LowestTerms(first*first, second*second), api.OK
}

// Passes returns whether a direction passes from one speed to another one.
func Passes(direction [2]int, first, second int) (bool, api.Errno) {
	e := check.First(directionError(direction), check.Speed(first), check.Speed(second))
	if e != api.OK {
		return false, e
	}
	num, den := behind(direction, first, second)
	return num <= den, api.OK
}

// BehindSquare returns the sine squared of a direction behind the plane.
func BehindSquare(direction [2]int, first, second int) (api.Frac, api.Errno) {
	passes, e := Passes(direction, first, second)
	if e = check.First(e, check.Unless(passes, api.ErrNone)); e != api.OK {
		return api.Frac{}, e
	}
	f := whole.LowestTerms(behind(direction, first, second))
	if f.Num > api.MaxPart || f.Den > api.MaxPart {
		return api.Frac{}, api.ErrLarge
	}
	return f, api.OK
}

// behind returns the sine squared behind the plane, not in lowest terms; above
// 1 for a direction that does not pass.
func behind(direction [2]int, first, second int) (num, den int) {
	across, down := direction[0], direction[1]
	square := across * across
	return square * second * second, (square + down*down) * first * first
}

// SteepWithin returns whether a direction is as steep as two limits ask.
func SteepWithin(direction [2]int, least, most api.Frac) (bool, api.Errno) {
	e := check.First(
		directionError(direction),
		check.Ratio(least, api.MaxPart),
		check.Ratio(most, api.MaxPart),
	)
	if e != api.OK {
		return false, e
	}
	if least.Num*most.Den > most.Num*least.Den {
		return false, api.ErrOrder
	}
	across, down := int(whole.SizeOf(direction[0])), direction[1]
	return least.Num*down <= across*least.Den && across*most.Den <= most.Num*down, api.OK
}
