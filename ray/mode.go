package ray

import (
	"couplant/api"
	"couplant/check"
	"couplant/whole"
)

// CheckMode returns the error of a mode.
func CheckMode(m api.RayMode) api.Errno {
	return check.First(
		check.Speed(m.Wedge),
		check.Speed(m.Metal),
		check.Within(m.Skips, 0, api.MaxSkips),
		thickError(m.Thick),
	)
}

// Unfolded returns the unfolded depth of z.
func Unfolded(m api.RayMode, z int) (int, api.Errno) {
	if e := check.First(CheckMode(m), check.Depth(z, m.Thick)); e != api.OK {
		return 0, e
	}
	return unfoldedDepth(m, z), api.OK
}

func unfoldedDepth(m api.RayMode, z int) int {
	if m.Skips%2 != 0 {
		z = m.Thick - z
	}
	return m.Skips*m.Thick + z
}

// CrossOf returns the crossing of a mode.
func CrossOf(m api.RayMode, from, to api.Spot) (api.RayCross, api.Errno) {
	if e := check.First(CheckMode(m), wayError(m, from, to)); e != api.OK {
		return api.RayCross{}, e
	}
	return api.RayCross{
		X1: from.X, H1: -from.Z, V1: m.Wedge,
		X2: to.X, H2: unfoldedDepth(m, to.Z), V2: m.Metal,
	}, api.OK
}

// LeastTime returns the least time of a way of a mode.
func LeastTime(m api.RayMode, from, to api.Spot) (api.Range, api.Errno) {
	x, e := CrossOf(m, from, to)
	if e != api.OK {
		return api.Range{}, e
	}
	return crossingOf(x).leastTime(), api.OK
}

// RoundedTime returns the middle of the least time, rounded down.
func RoundedTime(m api.RayMode, from, to api.Spot) (int, api.Errno) {
	t, e := LeastTime(m, from, to)
	return whole.DivideDown(t.Lo+t.Hi, 2), e
}

// Walls returns where the walls are met, in their order.
func Walls(m api.RayMode, from, to api.Spot) ([]api.Range, api.Errno) {
	x, e := CrossOf(m, from, to)
	if e != api.OK {
		return nil, e
	}
	at := crossingOf(x).fastest()
	var walls []api.Range
	for j := 1; j <= m.Skips; j++ {
		across := (x.X2 - at) * j * m.Thick
		walls = append(walls, api.Range{
			Lo: at + whole.DivideDown(across, x.H2),
			Hi: at + whole.DivideUp(across, x.H2),
		})
	}
	return walls, api.OK
}

// TurnedTime returns the least time of a turn at the back wall.
func TurnedTime(x api.RayTurn) (api.Range, api.Errno) {
	e := check.First(
		check.Place(x.From),
		check.Place(x.To),
		thickError(x.Thick),
		turnedError(x.From, x.Thick),
		turnedError(x.To, x.Thick),
		check.Speed(x.First),
		check.Speed(x.Second),
	)
	if e != api.OK {
		return api.Range{}, e
	}
	heights := ends{x.From.X, x.Thick - x.From.Z, x.To.X, x.Thick - x.To.Z}
	return crossing{heights, x.First, x.Second}.leastTime(), api.OK
}

// turnedError returns the error of an end of a turn, which may lie on the
// surface.
func turnedError(p api.Spot, thick int) api.Errno {
	if p.Z == 0 {
		return api.OK
	}
	return check.Depth(p.Z, thick)
}

// EchoTime returns the least time to a place and back from it.
func EchoTime(x api.RayEcho) (api.Range, api.Errno) {
	if e := check.First(CheckMode(x.Out), CheckMode(x.Back)); e != api.OK {
		return api.Range{}, e
	}
	out, first := LeastTime(x.Out, x.From, x.At)
	back, second := LeastTime(x.Back, x.To, x.At)
	if e := check.First(first, second); e != api.OK {
		return api.Range{}, e
	}
	return sumOf(out, back), api.OK
}

// MayBeFirst returns the numbers of the modes whose least time may be the
// least of all.
func MayBeFirst(l []api.RayMode, from, to api.Spot) ([]int, api.Errno) {
	if e := check.Count(len(l), api.MaxRayModes); e != api.OK {
		return nil, e
	}
	var times []api.Range
	for _, m := range l {
		t, e := LeastTime(m, from, to)
		if e != api.OK {
			return nil, e
		}
		times = append(times, t)
	}
	surely := times[0].Hi
	for _, t := range times {
		surely = min(surely, t.Hi)
	}
	var first []int
	for n, t := range times {
		if t.Lo <= surely {
			first = append(first, n)
		}
	}
	return first, api.OK
}
