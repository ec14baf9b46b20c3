package law_test

import (
	"fmt"
	"math"
	"math/big"
	"testing"

	"couplant/api"
	"couplant/law"
	"couplant/ray"
)

// huge is the greatest number there is.
const huge = math.MaxInt

// none is the law beside an error.
var none api.DelayLaw

// expect compares a result and an error with the ones that are promised. As
// texts, nil and an empty list are the same.
func expect[T any](t *testing.T, what string, got T, e api.Errno, want T, f api.Errno) {
	t.Helper()
	if fmt.Sprint(got) != fmt.Sprint(want) || e != f {
		t.Errorf("%s: %v, error %d; want %v, error %d", what, got, e, want, f)
	}
}

func expectError(t *testing.T, what string, e, f api.Errno) {
	t.Helper()
	if e != f {
		t.Errorf("%s: error %d; want error %d", what, e, f)
	}
}

// two is the array of the document's first example, focus its focus.
func two() api.LawArray {
	return api.LawArray{
		Elements: []api.Spot{{Z: -300}, {Z: -600}},
		Mode:     api.RayMode{Wedge: 2500, Metal: 5000, Thick: 1000},
		Clock:    1000,
	}
}

var focus = api.Spot{Z: 400}

// of returns a law with the clock 1000.
func of(ticks ...int) api.DelayLaw {
	return api.DelayLaw{Clock: 1000, Ticks: ticks}
}

// manyTicks returns a law of n elements, which send at once.
func manyTicks(n int) api.DelayLaw {
	return api.DelayLaw{Clock: 1000, Ticks: make([]int, n)}
}

// manyElements returns an array of n elements.
func manyElements(n int) api.LawArray {
	a := two()
	a.Elements = nil
	for i := range n {
		a.Elements = append(a.Elements, api.Spot{X: 10 * i, Z: -300})
	}
	return a
}

// numbers makes the same numbers in each run of the tests.
type numbers uint64

// from returns a number from least to most.
func (n *numbers) from(least, most int) int {
	*n = *n*6364136223846793005 + 1442695040888963407
	return least + int(uint64(*n>>33)%uint64(most-least+1))
}

func (n *numbers) array() api.LawArray {
	a := api.LawArray{Clock: n.from(1000, 50000)}
	a.Mode = api.RayMode{
		Wedge: n.from(1000, api.MaxSpeed), Metal: n.from(1000, api.MaxSpeed),
		Skips: n.from(0, api.MaxSkips), Thick: n.from(2, 3000),
	}
	for range n.from(1, 8) {
		a.Elements = append(a.Elements, api.Spot{X: n.from(-2000, 2000), Z: -n.from(1, 2000)})
	}
	return a
}

func (n *numbers) place(a api.LawArray) api.Spot {
	return api.Spot{X: n.from(-2000, 2000), Z: n.from(1, a.Mode.Thick-1)}
}

// law returns a law of an array, in which most of the elements send.
func (n *numbers) law(a api.LawArray) api.DelayLaw {
	l := api.DelayLaw{Clock: n.from(1, 50000)}
	for range a.Elements {
		l.Ticks = append(l.Ticks, max(-1, n.from(-100, 500)))
	}
	return l
}

// triples returns all directions with R at most so much.
func triples(most int) []api.LawTurn {
	var l []api.LawTurn
	for r := 1; r <= most; r++ {
		for p := -r; p <= r; p++ {
			for q := 1; q <= r; q++ {
				if p*p+q*q == r*r {
					l = append(l, api.LawTurn{P: p, Q: q, R: r})
				}
			}
		}
	}
	return l
}

func ratio(num, den int) *big.Rat {
	return big.NewRat(int64(num), int64(den))
}

// roundedDown returns a fraction, rounded down.
func roundedDown(r *big.Rat) int {
	return int(new(big.Int).Div(r.Num(), r.Denom()).Int64())
}

func roundedUp(r *big.Rat) int {
	return -roundedDown(new(big.Rat).Neg(r))
}

// nearest returns a fraction, rounded to the nearest number, halves up.
func nearest(r *big.Rat) int {
	return roundedDown(new(big.Rat).Add(r, big.NewRat(1, 2)))
}

// behind returns how many ticks the moments are behind the first one.
func behind(moments []*big.Rat) []int {
	first := moments[0]
	for _, m := range moments {
		if m.Cmp(first) < 0 {
			first = m
		}
	}
	var ticks []int
	for _, m := range moments {
		ticks = append(ticks, nearest(new(big.Rat).Sub(m, first)))
	}
	return ticks
}

// focusTicks returns the ticks of the law of a focus, by definition.
func focusTicks(a api.LawArray, at api.Spot) []int {
	var moments []*big.Rat
	for _, p := range a.Elements {
		time, _ := ray.RoundedTime(a.Mode, p, at)
		moments = append(moments, ratio(-time, a.Clock))
	}
	return behind(moments)
}

// planeTicks returns the ticks of the law of a direction, by definition.
func planeTicks(a api.LawArray, turn api.LawTurn) []int {
	var moments []*big.Rat
	for _, p := range a.Elements {
		m := ratio(p.X*turn.P+p.Z*turn.Q, turn.R)
		m.Mul(m, ratio(10000000, a.Mode.Wedge))
		moments = append(moments, m.Quo(m, ratio(a.Clock, 1)))
	}
	return behind(moments)
}

// spreadOf returns the spread of arrivals, by definition: over all pairs of them.
func spreadOf(arrivals []api.Range) api.Range {
	var s api.Range
	for _, late := range arrivals {
		for _, early := range arrivals {
			s.Lo = max(s.Lo, late.Lo-early.Hi)
			s.Hi = max(s.Hi, late.Hi-early.Lo)
		}
	}
	return s
}

func spread(t *testing.T, a api.LawArray, l api.DelayLaw, at api.Spot) api.Range {
	t.Helper()
	s, e := law.Spread(a, l, at)
	expectError(t, "Spread", e, api.OK)
	return s
}

// wrongArrays returns an array for each error that CheckArray may tell first.
func wrongArrays() map[api.Errno]api.LawArray {
	kind, clock := two(), two()
	kind.Elements[1].Z = 0
	clock.Clock = 0
	return map[api.Errno]api.LawArray{
		api.ErrShape: {},
		api.ErrLarge: manyElements(17),
		api.ErrKind:  kind,
		api.ErrRange: clock,
	}
}

// wrongLaws returns a law for each error that CheckLaw may tell first.
func wrongLaws() map[api.Errno]api.DelayLaw {
	return map[api.Errno]api.DelayLaw{
		api.ErrShape: of(),
		api.ErrLarge: manyTicks(17),
		api.ErrRange: of(0, -2),
	}
}

// wrongPlaces returns places in the order of their errors, and these.
func wrongPlaces() ([]api.Spot, []api.Errno) {
	return []api.Spot{
		{X: 100001, Z: 400}, {X: -100001, Z: 400}, {X: -huge - 1, Z: 0},
		{Z: 100001}, {Z: -100001}, {Z: huge},
		{Z: 0}, {Z: 1000}, {Z: -1}, {Z: 100000},
	}, []api.Errno{
		api.ErrRange, api.ErrRange, api.ErrRange,
		api.ErrRange, api.ErrRange, api.ErrRange,
		api.ErrBreak, api.ErrBreak, api.ErrBreak, api.ErrBreak,
	}
}
