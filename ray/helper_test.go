package ray_test

import (
	"math"
	"math/big"
	"slices"
	"testing"

	"couplant/api"
	"couplant/ray"
)

// huge is the greatest number there is.
const huge = math.MaxInt

// expect compares a result and an error with the ones that are promised.
func expect[T comparable](t *testing.T, what string, got T, e api.Errno, want T, f api.Errno) {
	t.Helper()
	if got != want || e != f {
		t.Errorf("%s: %v, error %d; want %v, error %d", what, got, e, want, f)
	}
}

// expectList does so with lists, of which nil and an empty one are the same.
func expectList[T comparable](t *testing.T, what string, got []T, e api.Errno, want []T, f api.Errno) {
	t.Helper()
	if !slices.Equal(got, want) || e != f {
		t.Errorf("%s: %v, error %d; want %v, error %d", what, got, e, want, f)
	}
}

func expectError(t *testing.T, what string, e, f api.Errno) {
	t.Helper()
	if e != f {
		t.Errorf("%s: error %d; want error %d", what, e, f)
	}
}

// numbers makes the same numbers in each run of the tests.
type numbers uint64

// from returns a number from least to most.
func (n *numbers) from(least, most int) int {
	*n = *n*6364136223846793005 + 1442695040888963407
	return least + int(uint64(*n>>33)%uint64(most-least+1))
}

func (n *numbers) speed() int {
	return n.from(api.LeastSpeed, api.MaxSpeed)
}

// crossing returns a crossing with places to a size, and heights to it.
func (n *numbers) crossing(size int) api.RayCross {
	return api.RayCross{
		X1: n.from(-size, size), H1: n.from(1, size), V1: n.speed(),
		X2: n.from(-size, size), H2: n.from(1, size), V2: n.speed(),
	}
}

// way returns a mode and a way of it.
func (n *numbers) way() (m api.RayMode, from, to api.Spot) {
	m = api.RayMode{Wedge: n.speed(), Metal: n.speed(), Skips: n.from(0, api.MaxSkips), Thick: n.from(2, 3000)}
	from = api.Spot{X: n.from(-5000, 5000), Z: -n.from(1, 4000)}
	to = api.Spot{X: n.from(-5000, 5000), Z: n.from(1, m.Thick-1)}
	return m, from, to
}

// crossings returns many crossings: ordinary ones, and ones at the limits.
func crossings() []api.RayCross {
	var n numbers = 7
	var l []api.RayCross
	for range 60 {
		l = append(l, n.crossing(3), n.crossing(40), n.crossing(2000), n.crossing(api.MaxPlace))
	}
	for _, x := range [][2]int{{-api.MaxPlace, api.MaxPlace}, {api.MaxPlace, -api.MaxPlace}, {0, 1}, {1, 0}, {5, 5}} {
		for _, h := range [][2]int{{1, 1}, {1, api.MaxPlace}, {api.MaxPlace, 1}, {api.MaxPlace, api.MaxPlace}} {
			for _, v := range [][2]int{{500, 500}, {500, 10000}, {10000, 500}, {10000, 10000}} {
				l = append(l, api.RayCross{X1: x[0], H1: h[0], V1: v[0], X2: x[1], H2: h[1], V2: v[1]})
			}
		}
	}
	return l
}

// someOf returns places of a crossing: all of a short one, else some with both
// ends.
func someOf(x api.RayCross) []int {
	first, last := min(x.X1, x.X2), max(x.X1, x.X2)
	step := max(1, (last-first)/97)
	l := []int{last}
	for at := first; at < last; at += step {
		l = append(l, at)
	}
	return l
}

func whole(n int) *big.Int {
	return big.NewInt(int64(n))
}

func product(l ...int) *big.Int {
	p := whole(1)
	for _, n := range l {
		p.Mul(p, whole(n))
	}
	return p
}

// exactSlope returns the sign of the slope by its definition: each term is the
// root, with its sign, of a fraction.
func exactSlope(x api.RayCross, at int) int {
	term := func(across, height, speed int) *big.Rat {
		square := product(across, across)
		leg := new(big.Int).Add(square, product(height, height))
		r := new(big.Rat).SetFrac(square, leg.Mul(leg, product(speed, speed)))
		if across < 0 {
			r.Neg(r)
		}
		return r
	}
	return term(at-x.X1, x.H1, x.V1).Cmp(term(x.X2-at, x.H2, x.V2))
}

// exactLength returns the length of two differences, by definition.
func exactLength(x, z int) api.Range {
	square := product(1000000, x, x)
	square.Add(square, product(1000000, z, z))
	root := new(big.Int).Sqrt(square)
	lo := int(root.Int64())
	if root.Mul(root, root).Cmp(square) == 0 {
		return api.Range{Lo: lo, Hi: lo}
	}
	return api.Range{Lo: lo, Hi: lo + 1}
}

// up divides two numbers that are not below 0, rounded up.
func up(a, b int) int {
	return (a + b - 1) / b
}

func exactTime(x, z, speed int) api.Range {
	l := exactLength(x, z)
	return api.Range{Lo: l.Lo * 10000 / speed, Hi: up(l.Hi*10000, speed)}
}

func sum(a, b api.Range) api.Range {
	return api.Range{Lo: a.Lo + b.Lo, Hi: a.Hi + b.Hi}
}

func meet(a, b api.Range) bool {
	return a.Lo <= b.Hi && b.Lo <= a.Hi
}

// least returns a least time that must be there.
func least(t *testing.T, x api.RayCross) api.Range {
	t.Helper()
	r, e := ray.Least(x)
	expectError(t, "Least", e, api.OK)
	return r
}
