package tune

import (
	"couplant/api"
	"couplant/check"
	"couplant/whole"
)

// WearOf returns the enclosure of how much a wedge has worn between two delays.
func WearOf(before, now, speed api.Range) (api.Range, api.Errno) {
	e := check.First(
		check.Range(before, -api.MaxTime, api.MaxTime),
		check.Range(now, -api.MaxTime, api.MaxTime),
		check.Range(speed, api.LeastSpeed, api.MaxSpeed),
	)
	if e != api.OK {
		return api.Range{}, e
	}
	least, greatest := before.Lo-now.Hi, before.Hi-now.Lo
	return api.Range{
		Lo: whole.DivideDown(min(least*speed.Lo, least*speed.Hi), 2*perUnit),
		Hi: whole.DivideUp(max(greatest*speed.Lo, greatest*speed.Hi), 2*perUnit),
	}, api.OK
}

// Uneven returns the numbers of the echoes that differ from a reference by more
// than so many thousandths of it.
func Uneven(l []int, reference, slack int) ([]int, api.Errno) {
	e := check.First(
		echoesError(l),
		echoError(reference),
		check.Within(slack, 0, perThousand),
	)
	if e != api.OK {
		return nil, e
	}
	var uneven []int
	for n, echo := range l {
		if whole.SizeOf(echo-reference)*perThousand > uint(slack*reference) {
			uneven = append(uneven, n)
		}
	}
	return uneven, api.OK
}
