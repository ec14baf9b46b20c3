package law_test

import (
	"slices"
	"testing"

	"couplant/api"
	"couplant/law"
	"couplant/ray"
)

// P2.2

func TestFocusLawOfExamples(t *testing.T) {
	l, e := law.FocusLaw(two(), focus)
	expect(t, "FocusLaw", l, e, of(1200, 0), api.OK)

	// 1200004 picoseconds are 1714.29 ticks, and 2.4 of half a microsecond.
	a := two()
	a.Clock = 700
	l, e = law.FocusLaw(a, focus)
	expect(t, "FocusLaw with another clock", l, e, api.DelayLaw{Clock: 700, Ticks: []int{1714, 0}}, api.OK)
	a.Clock = 500000
	l, e = law.FocusLaw(a, focus)
	expect(t, "FocusLaw with a coarse clock", l, e, api.DelayLaw{Clock: 500000, Ticks: []int{2, 0}}, api.OK)
}

// The elements are 1200004 picoseconds apart: with these clocks an odd number
// of halves.
func TestFocusLawRoundsHalvesUp(t *testing.T) {
	for clock, ticks := range map[int]int{
		8: 150001, 104: 11539, 376: 3192, 3928: 306, 4888: 246, 51064: 24, 184616: 7,
	} {
		a := two()
		a.Clock = clock
		l, e := law.FocusLaw(a, focus)
		expect(t, "FocusLaw", l, e, api.DelayLaw{Clock: clock, Ticks: []int{ticks, 0}}, api.OK)
	}
}

func TestFocusLawOfOneElement(t *testing.T) {
	l, e := law.FocusLaw(manyElements(1), api.Spot{X: 900, Z: 999})
	expect(t, "FocusLaw of one element", l, e, of(0), api.OK)
}

func TestFocusLawIsAsDefined(t *testing.T) {
	var n numbers = 2
	for range 500 {
		a := n.array()
		at := n.place(a)
		l, e := law.FocusLaw(a, at)
		expect(t, "FocusLaw", l, e, api.DelayLaw{Clock: a.Clock, Ticks: focusTicks(a, at)}, api.OK)
		if !slices.Contains(l.Ticks, 0) {
			t.Errorf("no element sends first: %v", l)
		}
	}
}

// The mode alone tells the skips with which a focus is met.
func TestFocusLawUsesTheMode(t *testing.T) {
	a := manyElements(4)
	a.Mode.Skips = 1
	l, e := law.FocusLaw(a, focus)
	expect(t, "FocusLaw with a skip", l, e, of(focusTicks(a, focus)...), api.OK)
	direct := manyElements(4)
	direct.Mode.Thick = 3000
	m, e := law.FocusLaw(direct, api.Spot{Z: 1600})
	expect(t, "FocusLaw at the unfolded place", m, e, l, api.OK)
}

func TestFocusLawIsLarge(t *testing.T) {
	a := two()
	near, _ := ray.RoundedTime(a.Mode, a.Elements[0], focus)
	far, _ := ray.RoundedTime(a.Mode, a.Elements[1], focus)
	if far-near != 1200004 {
		t.Fatalf("the elements are %d apart", far-near)
	}
	a.Clock = 1
	l, e := law.FocusLaw(a, focus)
	expect(t, "FocusLaw with a fine clock", l, e, none, api.ErrLarge)
	a.Clock = 2
	l, e = law.FocusLaw(a, focus)
	expect(t, "FocusLaw with a clock that does", l, e, api.DelayLaw{Clock: 2, Ticks: []int{600002, 0}}, api.OK)
}

func TestFocusLawRefuses(t *testing.T) {
	for want, a := range wrongArrays() {
		l, e := law.FocusLaw(a, api.Spot{X: huge})
		expect(t, "FocusLaw of a wrong array", l, e, none, want)
	}
	places, errors := wrongPlaces()
	for i, p := range places {
		a := two()
		a.Clock = 1
		l, e := law.FocusLaw(a, p)
		expect(t, "FocusLaw at a wrong place", l, e, none, errors[i])
	}
}

func TestPlaneLawOfExamples(t *testing.T) {
	slanted := two()
	slanted.Elements[1] = api.Spot{X: 500, Z: -300}
	for _, x := range []struct {
		a    api.LawArray
		turn api.LawTurn
		want []int
	}{
		{two(), api.LawTurn{Q: 1, R: 1}, []int{1200, 0}},
		{two(), api.LawTurn{Q: 1000, R: 1000}, []int{1200, 0}},
		{slanted, api.LawTurn{P: 3, Q: 4, R: 5}, []int{0, 1200}},
		{slanted, api.LawTurn{P: -3, Q: 4, R: 5}, []int{1200, 0}},
		{slanted, api.LawTurn{Q: 1, R: 1}, []int{0, 0}},
		{manyElements(1), api.LawTurn{P: 3, Q: 4, R: 5}, []int{0}},
	} {
		l, e := law.PlaneLaw(x.a, x.turn)
		expect(t, "PlaneLaw", l, e, of(x.want...), api.OK)
	}
}

// With the wedge 5000 and the clock 4000 a unit of height is half a tick.
func TestPlaneLawRoundsHalvesUp(t *testing.T) {
	a := two()
	a.Mode.Wedge, a.Clock = 5000, 4000
	for height, ticks := range map[int]int{1: 1, 2: 1, 3: 2, 4: 2, 5: 3} {
		a.Elements[1].Z = a.Elements[0].Z - height
		l, e := law.PlaneLaw(a, api.LawTurn{Q: 1, R: 1})
		expect(t, "PlaneLaw", l, e, api.DelayLaw{Clock: 4000, Ticks: []int{ticks, 0}}, api.OK)
	}
}

func TestPlaneLawIsAsDefined(t *testing.T) {
	var n numbers = 3
	turns := triples(100)
	for range 500 {
		a := n.array()
		turn := turns[n.from(0, len(turns)-1)]
		l, e := law.PlaneLaw(a, turn)
		expect(t, "PlaneLaw", l, e, api.DelayLaw{Clock: a.Clock, Ticks: planeTicks(a, turn)}, api.OK)
		if !slices.Contains(l.Ticks, 0) {
			t.Errorf("no element sends first: %v", l)
		}
	}
}

func TestPlaneLawOfTheFarthestElements(t *testing.T) {
	a := two()
	a.Elements = []api.Spot{{X: -100000, Z: -100000}, {X: 100000, Z: -1}}
	a.Mode.Wedge, a.Clock = 500, 1000000
	turn := api.LawTurn{P: 936, Q: 352, R: 1000}
	l, e := law.PlaneLaw(a, turn)
	expect(t, "PlaneLaw", l, e, api.DelayLaw{Clock: 1000000, Ticks: planeTicks(a, turn)}, api.OK)
}

// With the wedge 10000 and the clock 1 a unit of height is 1000 ticks.
func TestPlaneLawIsLarge(t *testing.T) {
	a := two()
	a.Mode.Wedge, a.Clock = 10000, 1
	a.Elements[1].Z = a.Elements[0].Z - 1000
	l, e := law.PlaneLaw(a, api.LawTurn{Q: 1, R: 1})
	expect(t, "PlaneLaw at the limit", l, e, api.DelayLaw{Clock: 1, Ticks: []int{1000000, 0}}, api.OK)
	a.Elements[1].Z--
	l, e = law.PlaneLaw(a, api.LawTurn{Q: 1, R: 1})
	expect(t, "PlaneLaw beyond the limit", l, e, none, api.ErrLarge)
}

// The limit is for ticks that are rounded. With the direction (7, 24, 25) and
// the wedge 4000 the clock 300 makes thirds of ticks, the clock 200 halves.
func TestPlaneLawIsLargeWhenRounded(t *testing.T) {
	for _, x := range []struct {
		clock, across, down int
		want                api.Errno
	}{
		{300, 119983, 90005, api.OK},       // 3000001 / 3
		{300, 119990, 90003, api.ErrLarge}, // 3000002 / 3
		{200, 15, 83329, api.ErrLarge},     // 2000001 / 2
		{200, 8, 83331, api.OK},            // 2000000 / 2
	} {
		a := two()
		a.Mode.Wedge, a.Clock = 4000, x.clock
		a.Elements = []api.Spot{{X: -60000, Z: -100000}, {X: x.across - 60000, Z: x.down - 100000}}
		l, e := law.PlaneLaw(a, api.LawTurn{P: 7, Q: 24, R: 25})
		want := none
		if x.want == api.OK {
			want = api.DelayLaw{Clock: x.clock, Ticks: []int{0, 1000000}}
		}
		expect(t, "PlaneLaw", l, e, want, x.want)
	}
}

func TestPlaneLawRefuses(t *testing.T) {
	for want, a := range wrongArrays() {
		l, e := law.PlaneLaw(a, api.LawTurn{})
		expect(t, "PlaneLaw of a wrong array", l, e, none, want)
	}
	fine := two()
	fine.Clock = 1
	for _, x := range []struct {
		turn api.LawTurn
		want api.Errno
	}{
		{api.LawTurn{P: 3, Q: 4}, api.ErrRange},
		{api.LawTurn{P: 3, Q: 4, R: 6}, api.ErrShape},
		{api.LawTurn{P: 3, Q: -4, R: 5}, api.ErrKind},
	} {
		l, e := law.PlaneLaw(fine, x.turn)
		expect(t, "PlaneLaw of a wrong direction", l, e, none, x.want)
	}
}
