package law_test

import (
	"testing"

	"couplant/api"
	"couplant/law"
)

// P2.1

func TestCheckArrayAccepts(t *testing.T) {
	limits := two()
	limits.Elements = []api.Spot{{X: 100000, Z: -1}, {X: -100000, Z: -100000}}
	limits.Mode = api.RayMode{Wedge: 500, Metal: 10000, Skips: 4, Thick: 20000}
	limits.Clock = 1000000
	same := manyElements(2)
	same.Elements[1] = same.Elements[0]
	same.Clock = 1
	for _, a := range []api.LawArray{two(), limits, same, manyElements(1), manyElements(16)} {
		n, e := law.CheckArray(a)
		expect(t, "CheckArray", n, e, 0, api.OK)
	}
}

func TestCheckArrayCountsElementsFirst(t *testing.T) {
	n, e := law.CheckArray(api.LawArray{})
	expect(t, "CheckArray of nothing", n, e, 0, api.ErrShape)
	n, e = law.CheckArray(api.LawArray{Elements: []api.Spot{}, Mode: two().Mode, Clock: -1})
	expect(t, "CheckArray of an empty list", n, e, 0, api.ErrShape)
	a := manyElements(17)
	n, e = law.CheckArray(a)
	expect(t, "CheckArray of 17 elements", n, e, 0, api.ErrLarge)
	a.Elements[3], a.Mode, a.Clock = api.Spot{}, api.RayMode{}, 0
	n, e = law.CheckArray(a)
	expect(t, "CheckArray of 17 wrong elements", n, e, 0, api.ErrLarge)
}

func TestCheckArrayTellsTheElement(t *testing.T) {
	for _, x := range []struct {
		at   int
		p    api.Spot
		want api.Errno
	}{
		{0, api.Spot{X: 100001, Z: -1}, api.ErrRange},
		{3, api.Spot{X: -100001, Z: -1}, api.ErrRange},
		{5, api.Spot{Z: -100001}, api.ErrRange},
		{5, api.Spot{Z: 100001}, api.ErrRange},
		{2, api.Spot{X: huge, Z: 0}, api.ErrRange},
		{2, api.Spot{X: -huge - 1, Z: -1}, api.ErrRange},
		{4, api.Spot{Z: -huge - 1}, api.ErrRange},
		{1, api.Spot{Z: 0}, api.ErrKind},
		{15, api.Spot{X: 100000, Z: 100000}, api.ErrKind},
	} {
		a := manyElements(16)
		a.Elements[x.at] = x.p
		n, e := law.CheckArray(a)
		expect(t, "CheckArray", n, e, x.at, x.want)
		a.Mode, a.Clock = api.RayMode{}, 0
		n, e = law.CheckArray(a)
		expect(t, "CheckArray with a wrong mode", n, e, x.at, x.want)
	}
}

func TestCheckArrayTellsTheFirstElement(t *testing.T) {
	a := manyElements(5)
	a.Elements[2].Z, a.Elements[3].X = 0, huge
	n, e := law.CheckArray(a)
	expect(t, "CheckArray of two wrong elements", n, e, 2, api.ErrKind)
	a.Elements[1].X = huge
	n, e = law.CheckArray(a)
	expect(t, "CheckArray of three wrong elements", n, e, 1, api.ErrRange)
}

func TestCheckArrayRefusesModesAndClocks(t *testing.T) {
	for _, m := range []api.RayMode{
		{Wedge: 499, Metal: 5000, Thick: 1000},
		{Wedge: 2500, Metal: 10001, Thick: 1000},
		{Wedge: 2500, Metal: 5000, Skips: 5, Thick: 1000},
		{Wedge: 2500, Metal: 5000, Thick: 1},
		{},
	} {
		a := two()
		a.Mode = m
		n, e := law.CheckArray(a)
		expect(t, "CheckArray of a wrong mode", n, e, 0, api.ErrRange)
	}
	for _, clock := range []int{0, -1000, 1000001, huge, -huge - 1} {
		a := two()
		a.Clock = clock
		n, e := law.CheckArray(a)
		expect(t, "CheckArray of a wrong clock", n, e, 0, api.ErrRange)
	}
}

func TestCheckLawAccepts(t *testing.T) {
	for _, l := range []api.DelayLaw{
		of(0), of(-1), of(1000000, -1, 0), manyTicks(16),
		{Clock: 1, Ticks: []int{5}}, {Clock: 1000000, Ticks: []int{5}},
	} {
		n, e := law.CheckLaw(l)
		expect(t, "CheckLaw", n, e, 0, api.OK)
	}
}

func TestCheckLawRefuses(t *testing.T) {
	last := manyTicks(16)
	last.Ticks[15] = -2
	many := manyTicks(17)
	many.Ticks[0] = -2
	for _, x := range []struct {
		l    api.DelayLaw
		n    int
		want api.Errno
	}{
		{api.DelayLaw{}, 0, api.ErrRange},
		{api.DelayLaw{Clock: 1000001}, 0, api.ErrRange},
		{api.DelayLaw{Clock: -5, Ticks: []int{0, -2}}, 0, api.ErrRange},
		{api.DelayLaw{Clock: huge, Ticks: []int{0, -2}}, 0, api.ErrRange},
		{of(), 0, api.ErrShape},
		{manyTicks(17), 0, api.ErrLarge},
		{many, 0, api.ErrLarge},
		{of(0, -2), 1, api.ErrRange},
		{of(0, 0, 1000001, -2), 2, api.ErrRange},
		{of(-1, huge), 1, api.ErrRange},
		{of(0, -huge-1), 1, api.ErrRange},
		{last, 15, api.ErrRange},
	} {
		n, e := law.CheckLaw(x.l)
		expect(t, "CheckLaw", n, e, x.n, x.want)
	}
}

func TestCheckTurn(t *testing.T) {
	for _, x := range []struct {
		turn api.LawTurn
		want api.Errno
	}{
		{api.LawTurn{Q: 1, R: 1}, api.OK},
		{api.LawTurn{P: 3, Q: 4, R: 5}, api.OK},
		{api.LawTurn{P: -3, Q: 4, R: 5}, api.OK},
		{api.LawTurn{P: 600, Q: 800, R: 1000}, api.OK},
		{api.LawTurn{Q: 1000, R: 1000}, api.OK},
		{api.LawTurn{}, api.ErrRange},
		{api.LawTurn{P: 3, Q: 4, R: -5}, api.ErrRange},
		{api.LawTurn{Q: 1001, R: 1001}, api.ErrRange},
		{api.LawTurn{P: 5, Q: 5, R: 1001}, api.ErrRange},
		{api.LawTurn{P: 5, Q: -5, R: -huge - 1}, api.ErrRange},
		{api.LawTurn{P: 1, Q: 1, R: 1}, api.ErrShape},
		{api.LawTurn{P: 3, Q: 4, R: 6}, api.ErrShape},
		{api.LawTurn{P: 3, Q: 4, R: 4}, api.ErrShape},
		{api.LawTurn{P: 1, Q: -1, R: 1}, api.ErrShape},
		{api.LawTurn{R: 1}, api.ErrShape},
		{api.LawTurn{P: 1, R: 1}, api.ErrKind},
		{api.LawTurn{P: -1, R: 1}, api.ErrKind},
		{api.LawTurn{P: 3, Q: -4, R: 5}, api.ErrKind},
		{api.LawTurn{Q: -1, R: 1}, api.ErrKind},
	} {
		expectError(t, "CheckTurn", law.CheckTurn(x.turn), x.want)
	}
}

// The squares of these wrap around to that of 1.
func TestCheckTurnOfNumbersThatDoNotFit(t *testing.T) {
	for _, far := range []int{-huge - 1, 1 << 32, -1 << 40} {
		expectError(t, "CheckTurn far across", law.CheckTurn(api.LawTurn{P: far, Q: 1, R: 1}), api.ErrShape)
		expectError(t, "CheckTurn far down", law.CheckTurn(api.LawTurn{P: 1, Q: far, R: 1}), api.ErrShape)
	}
}
