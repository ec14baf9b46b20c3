package law_test

import (
	"math/big"
	"slices"
	"testing"

	"couplant/api"
	"couplant/law"
	"couplant/ray"
)

// P2.3

func TestArrivalsOfExamples(t *testing.T) {
	for _, x := range []struct {
		l    api.DelayLaw
		want []api.Range
	}{
		{of(1200, 0), []api.Range{{Lo: 3199981, Hi: 3200000}, {Lo: 3199988, Hi: 3200000}}},
		{of(0, 0), []api.Range{{Lo: 1999981, Hi: 2000000}, {Lo: 3199988, Hi: 3200000}}},
		{of(-1, 7), []api.Range{{Lo: 3206988, Hi: 3207000}}},
		{of(1, -1), []api.Range{{Lo: 2000981, Hi: 2001000}}},
		{of(-1, -1), nil},
		// Delays are of the clock of the law, not of the array.
		{api.DelayLaw{Clock: 7, Ticks: []int{3, 1}}, []api.Range{{Lo: 2000002, Hi: 2000021}, {Lo: 3199995, Hi: 3200007}}},
		{api.DelayLaw{Clock: 1000000, Ticks: []int{1000000, -1}}, []api.Range{{Lo: 1000001999981, Hi: 1000002000000}}},
	} {
		l, e := law.Arrivals(two(), x.l, focus)
		expect(t, "Arrivals", l, e, x.want, api.OK)
	}
}

func TestArrivalsAreAsDefined(t *testing.T) {
	var n numbers = 4
	for range 300 {
		a := n.array()
		l, at := n.law(a), n.place(a)
		var want []api.Range
		for i, p := range a.Elements {
			time, _ := ray.LeastTime(a.Mode, p, at)
			if l.Ticks[i] >= 0 {
				delay := l.Ticks[i] * l.Clock
				want = append(want, api.Range{Lo: time.Lo + delay, Hi: time.Hi + delay})
			}
		}
		r, e := law.Arrivals(a, l, at)
		expect(t, "Arrivals", r, e, want, api.OK)
		if len(want) > 0 {
			s, e := law.Spread(a, l, at)
			expect(t, "Spread", s, e, spreadOf(want), api.OK)
		}
	}
}

func TestSpreadOfExamples(t *testing.T) {
	for _, x := range []struct {
		l    api.DelayLaw
		want api.Range
	}{
		{of(1200, 0), api.Range{Lo: 0, Hi: 19}},
		{of(0, 0), api.Range{Lo: 1199988, Hi: 1200019}},
		{of(-1, 7), api.Range{Lo: 0, Hi: 12}},
		{of(7, -1), api.Range{Lo: 0, Hi: 19}},
		{of(1201, 0), api.Range{Lo: 981, Hi: 1012}},
	} {
		s, e := law.Spread(two(), x.l, focus)
		expect(t, "Spread", s, e, x.want, api.OK)
	}
}

func TestSpreadOfNone(t *testing.T) {
	s, e := law.Spread(two(), of(-1, -1), focus)
	expect(t, "Spread of none", s, e, api.Range{}, api.ErrNone)
	s, e = law.Spread(two(), of(-1, -1), api.Spot{Z: 1000})
	expect(t, "Spread of none at a wrong place", s, e, api.Range{}, api.ErrBreak)
}

// refusals calls what takes an array, a law of it and a place with wrong ones,
// each with all the errors that come behind its own.
func refusals(t *testing.T, what string, errorOf func(a api.LawArray, l api.DelayLaw, at api.Spot) api.Errno) {
	t.Helper()
	far := api.Spot{X: huge}
	for want, a := range wrongArrays() {
		expectError(t, what+" of a wrong array", errorOf(a, none, far), want)
	}
	for want, l := range wrongLaws() {
		expectError(t, what+" of a wrong law", errorOf(manyElements(3), l, far), want)
	}
	expectError(t, what+" of too few ticks", errorOf(two(), of(0), far), api.ErrShape)
	expectError(t, what+" of too many ticks", errorOf(two(), of(-1, -1, -1), far), api.ErrShape)
	places, errors := wrongPlaces()
	for i, p := range places {
		expectError(t, what+" at a wrong place", errorOf(two(), of(1200, 0), p), errors[i])
		expectError(t, what+" of none at a wrong place", errorOf(two(), of(-1, -1), p), errors[i])
	}
}

func TestArrivalsRefuse(t *testing.T) {
	refusals(t, "Arrivals", func(a api.LawArray, l api.DelayLaw, at api.Spot) api.Errno {
		r, e := law.Arrivals(a, l, at)
		expect(t, "Arrivals", r, e, nil, e)
		return e
	})
}

func TestSpreadRefuses(t *testing.T) {
	refusals(t, "Spread", func(a api.LawArray, l api.DelayLaw, at api.Spot) api.Errno {
		s, e := law.Spread(a, l, at)
		expect(t, "Spread", s, e, api.Range{}, e)
		return e
	})
}

func TestLossOf(t *testing.T) {
	for _, x := range []struct{ spread, period, want int }{
		{100000, 1000000, 50},
		{0, 1, 0},
		{0, 10000000, 0},
		{1, 10000000, 1},
		{14142, 1000000, 1},   // 0.99998
		{14143, 1000000, 2},   // 1.0001
		{20000, 1000000, 2},   // just 2
		{20001, 1000000, 3},   // 2.0002
		{44721, 100000, 1000}, // 999.98
		{44722, 100000, 1000}, // 1000.03
		{447, 1000, 1000},     // 999.05
		{446, 1000, 995},      // 994.58
		{1, 1, 1000},
		{1000000, 1000000, 1000},
		{1000000000000, 1, 1000},
		{1000000000000, 10000000, 1000},
		{9999999, 10000000, 1000},
		{4472135, 10000000, 1000},
		{4470000, 10000000, 1000}, // 999.05
		{4460000, 10000000, 995},  // 994.58
	} {
		n, e := law.LossOf(x.spread, x.period)
		expect(t, "LossOf", n, e, x.want, api.OK)
	}
}

func TestLossOfIsAsDefined(t *testing.T) {
	var n numbers = 5
	for range 2000 {
		period := n.from(1, api.MaxPeriod)
		spread := n.from(0, period)
		if n.from(0, 9) == 0 {
			spread = n.from(0, 1<<30) * 931
		}
		loss := ratio(spread, period)
		loss.Mul(loss, loss).Mul(loss, ratio(5000, 1))
		want := 1000
		if loss.Cmp(big.NewRat(1000, 1)) < 0 {
			want = roundedUp(loss)
		}
		r, e := law.LossOf(spread, period)
		expect(t, "LossOf", r, e, want, api.OK)
	}
}

func TestLossOfRefuses(t *testing.T) {
	for _, x := range [][2]int{
		{-1, 5}, {1000000000001, 5}, {huge, 5}, {-huge - 1, 5},
		{5, 0}, {5, -1}, {5, 10000001}, {5, huge}, {5, -huge - 1}, {-1, 0},
	} {
		n, e := law.LossOf(x[0], x[1])
		expect(t, "LossOf", n, e, 0, api.ErrRange)
	}
}

func TestBestAt(t *testing.T) {
	aside := api.Spot{X: 300, Z: 400}
	many := slices.Repeat([]api.Spot{aside}, 20)
	last := slices.Clone(many)
	last[19] = focus
	for _, x := range []struct {
		places []api.Spot
		want   int
	}{
		{[]api.Spot{aside, focus, focus}, 1},
		{[]api.Spot{focus, aside}, 0},
		{[]api.Spot{aside}, 0},
		{many, 0},
		{last, 19},
	} {
		n, e := law.BestAt(two(), of(1200, 0), x.places)
		expect(t, "BestAt", n, e, x.want, api.OK)
	}
}

func TestBestAtIsAsDefined(t *testing.T) {
	var n numbers = 6
	for range 200 {
		a := n.array()
		l := n.law(a)
		l.Ticks[0] = max(l.Ticks[0], 0)
		var places []api.Spot
		var ends []int
		for range n.from(1, 20) {
			places = append(places, n.place(a))
			ends = append(ends, spread(t, a, l, places[len(places)-1]).Hi)
		}
		r, e := law.BestAt(a, l, places)
		expect(t, "BestAt", r, e, slices.Index(ends, slices.Min(ends)), api.OK)
	}
}

// What decides is the greatest end: the least one is 0 at both places.
func TestBestAtComparesTheGreatestEnds(t *testing.T) {
	a, l := two(), of(1200, -1)
	near, deep := api.Spot{Z: 1}, api.Spot{Z: 999}
	first, second := spread(t, a, l, near), spread(t, a, l, deep)
	if first.Lo != 0 || second.Lo != 0 || first.Hi <= second.Hi {
		t.Fatalf("the spreads are %v and %v", first, second)
	}
	n, e := law.BestAt(a, l, []api.Spot{near, deep})
	expect(t, "BestAt", n, e, 1, api.OK)
}

func TestBestAtRefuses(t *testing.T) {
	refusals(t, "BestAt", func(a api.LawArray, l api.DelayLaw, at api.Spot) api.Errno {
		n, e := law.BestAt(a, l, []api.Spot{focus, at, {}})
		expect(t, "BestAt", n, e, 0, e)
		return e
	})
	for _, x := range []struct {
		l      api.DelayLaw
		places []api.Spot
		want   api.Errno
	}{
		{of(0), nil, api.ErrShape},
		{of(-1, -1), nil, api.ErrShape},
		{of(-1, -1), []api.Spot{}, api.ErrShape},
		{of(-1, -1), make([]api.Spot, 21), api.ErrLarge},
		{of(-1, -1), []api.Spot{focus, {}}, api.ErrBreak},
		{of(-1, -1), []api.Spot{focus, {}, {X: huge}}, api.ErrBreak},
		{of(-1, -1), []api.Spot{{X: huge}, {}}, api.ErrRange},
		{of(-1, -1), []api.Spot{focus}, api.ErrNone},
	} {
		n, e := law.BestAt(two(), x.l, x.places)
		expect(t, "BestAt", n, e, 0, x.want)
	}
}

func TestCoarsest(t *testing.T) {
	for _, x := range []struct {
		clocks []int
		most   int
		want   int
		e      api.Errno
	}{
		{[]int{1000}, 19, 1000, api.OK},
		{[]int{1000}, 18, 0, api.ErrNone},
		{[]int{1000, 1000000}, 19, 1000, api.OK},
		{[]int{1000, 2000, 3000, 7000}, 19, 3000, api.OK},
		{[]int{1, 1000}, 1000, 1000, api.OK},
		{[]int{1}, 1000000000000, 0, api.ErrNone},
		{[]int{1, 2}, 1000000000000, 2, api.OK},
		{[]int{1, 1000000}, 1000000000000, 1000000, api.OK},
		{[]int{1000}, 0, 0, api.ErrNone},
	} {
		n, e := law.Coarsest(two(), focus, api.LawClocks{Clocks: x.clocks, Most: x.most})
		expect(t, "Coarsest", n, e, x.want, x.e)
	}
}

// The clock of the array itself decides nothing.
func TestCoarsestUsesTheClocksAlone(t *testing.T) {
	for _, clock := range []int{1, 999, 1000000} {
		a := two()
		a.Clock = clock
		n, e := law.Coarsest(a, focus, api.LawClocks{Clocks: []int{1000, 7000}, Most: 19})
		expect(t, "Coarsest", n, e, 1000, api.OK)
	}
}

func TestCoarsestIsAsDefined(t *testing.T) {
	var n numbers = 8
	found := 0
	for range 200 {
		a := n.array()
		at := n.place(a)
		x := api.LawClocks{Most: n.from(0, 40000)}
		for clock := n.from(1, 5000); len(x.Clocks) < 20; clock += n.from(1, 5000) {
			x.Clocks = append(x.Clocks, clock)
		}
		want, f := 0, api.ErrNone
		for _, clock := range x.Clocks {
			timed := a
			timed.Clock = clock
			l, e := law.FocusLaw(timed, at)
			if e == api.OK && spread(t, timed, l, at).Hi <= x.Most {
				want, f = clock, api.OK
			}
		}
		if f == api.OK {
			found++
		}
		r, e := law.Coarsest(a, at, x)
		expect(t, "Coarsest", r, e, want, f)
	}
	if found < 50 || found == 200 {
		t.Errorf("%d of 200 have a clock", found)
	}
}

func TestCoarsestRefuses(t *testing.T) {
	right := api.LawClocks{Clocks: []int{1000}, Most: 19}
	for want, a := range wrongArrays() {
		n, e := law.Coarsest(a, api.Spot{X: huge}, api.LawClocks{})
		expect(t, "Coarsest of a wrong array", n, e, 0, want)
		n, e = law.Coarsest(a, focus, right)
		expect(t, "Coarsest of a wrong array alone", n, e, 0, want)
	}
	places, errors := wrongPlaces()
	for i, p := range places {
		n, e := law.Coarsest(two(), p, api.LawClocks{Most: -1})
		expect(t, "Coarsest at a wrong place", n, e, 0, errors[i])
	}
	many := make([]int, 21)
	for i := range many {
		many[i] = i + 1
	}
	for _, x := range []struct {
		clocks []int
		most   int
		want   api.Errno
	}{
		{nil, -1, api.ErrShape},
		{many, -1, api.ErrLarge},
		{make([]int, 21), -1, api.ErrLarge},
		{many[:20], -1, api.ErrRange},
		{[]int{0, 0}, 19, api.ErrRange},
		{[]int{2, 1, 0}, -1, api.ErrOrder},
		{[]int{2, 2}, -1, api.ErrOrder},
		{[]int{2, 0, 1}, 19, api.ErrRange},
		{[]int{5, -1}, 19, api.ErrRange},
		{[]int{1, 1000001}, 19, api.ErrRange},
		{[]int{huge}, 19, api.ErrRange},
		{[]int{1000}, -1, api.ErrRange},
		{[]int{1000}, 1000000000001, api.ErrRange},
		{[]int{1000}, huge, api.ErrRange},
		{[]int{1000}, -huge - 1, api.ErrRange},
	} {
		n, e := law.Coarsest(two(), focus, api.LawClocks{Clocks: x.clocks, Most: x.most})
		expect(t, "Coarsest", n, e, 0, x.want)
	}
}
