package ray_test

import (
	"testing"

	"couplant/api"
	"couplant/ray"
)

// P1.2, and its consequences P1.6 and P1.7

// middle is the crossing of the second example.
var middle = api.RayCross{X1: 0, H1: 300, V1: 2500, X2: 800, H2: 300, V2: 2500}

func TestCrossingExamples(t *testing.T) {
	at, e := ray.Crossing(middle)
	expect(t, "Crossing", at, e, 400, api.OK)
	r, e := ray.TimeAt(middle, 400)
	expect(t, "TimeAt 400", r, e, api.Range{Lo: 4000000, Hi: 4000000}, api.OK)
	r, e = ray.TimeAt(middle, 401)
	expect(t, "TimeAt 401", r, e, api.Range{Lo: 4000000, Hi: 4000008}, api.OK)
	r, e = ray.Least(middle)
	expect(t, "Least", r, e, api.Range{Lo: 3999972, Hi: 4000000}, api.OK)
	s, e := ray.SlopeAt(middle, 400)
	expect(t, "SlopeAt 400", s, e, 0, api.OK)
	s, e = ray.SlopeAt(api.RayCross{X1: 0, H1: 300, V1: 2500, X2: 1000, H2: 300, V2: 5000}, 300)
	expect(t, "SlopeAt 300", s, e, 1, api.OK)
}

func TestCrossingStraightDown(t *testing.T) {
	for _, x := range []int{0, -7, api.MaxPlace, -api.MaxPlace} {
		c := api.RayCross{X1: x, H1: 300, V1: 2500, X2: x, H2: 400, V2: 5000}
		at, e := ray.Crossing(c)
		expect(t, "Crossing", at, e, x, api.OK)
		s, e := ray.SlopeAt(c, x)
		expect(t, "SlopeAt", s, e, 0, api.OK)
		expectError(t, "CheckCrossing", ray.CheckCrossing(c, x), api.OK)
		expect(t, "Least", least(t, c), api.OK, api.Range{Lo: 1999981, Hi: 2000000}, api.OK)
		_, e = ray.TimeAt(c, x+1)
		expectError(t, "TimeAt the next place", e, api.ErrRange)
	}
}

func TestSlopeIsExact(t *testing.T) {
	for _, c := range crossings() {
		for _, at := range someOf(c) {
			s, e := ray.SlopeAt(c, at)
			expect(t, "SlopeAt", s, e, exactSlope(c, at), api.OK)
		}
		at, _ := ray.Crossing(c)
		for _, near := range []int{at - 1, at, at + 1} {
			s, e := ray.SlopeAt(c, near)
			if near < min(c.X1, c.X2) || near > max(c.X1, c.X2) {
				expect(t, "SlopeAt outside", s, e, 0, api.ErrRange)
				continue
			}
			expect(t, "SlopeAt near the crossing", s, e, exactSlope(c, near), api.OK)
		}
	}
}

func TestTimeAtIsTheSumOfBothLegs(t *testing.T) {
	for _, c := range crossings() {
		for _, at := range someOf(c) {
			r, e := ray.TimeAt(c, at)
			expect(t, "TimeAt", r, e, sum(exactTime(at-c.X1, c.H1, c.V1), exactTime(at-c.X2, c.H2, c.V2)), api.OK)
		}
	}
}

func TestCrossingIsTheGreatestPlaceThatDoesNotRise(t *testing.T) {
	for _, c := range crossings() {
		at, e := ray.Crossing(c)
		expectError(t, "Crossing", e, api.OK)
		last := max(c.X1, c.X2)
		if exactSlope(c, at) > 0 || at < last && exactSlope(c, at+1) <= 0 {
			t.Errorf("Crossing of %v: %d", c, at)
		}
	}
}

func TestCheckCrossingAcceptsOnePlaceAlone(t *testing.T) {
	for _, c := range crossings() {
		at, _ := ray.Crossing(c)
		expectError(t, "CheckCrossing", ray.CheckCrossing(c, at), api.OK)
		for _, other := range append(someOf(c), max(at-1, min(c.X1, c.X2)), min(at+1, max(c.X1, c.X2))) {
			if other != at {
				expectError(t, "CheckCrossing elsewhere", ray.CheckCrossing(c, other), api.ErrProof)
			}
		}
	}
}

func TestLeastIsTheLesserTimeLessTheBound(t *testing.T) {
	for _, c := range crossings() {
		at, _ := ray.Crossing(c)
		want, _ := ray.TimeAt(c, at)
		if next, e := ray.TimeAt(c, at+1); e == api.OK {
			want = api.Range{Lo: min(want.Lo, next.Lo), Hi: min(want.Hi, next.Hi)}
		}
		want.Lo = max(0, want.Lo-up(10000000, c.V1*c.H1)-up(10000000, c.V2*c.H2))
		expect(t, "Least", least(t, c), api.OK, want, api.OK)
	}
}

func TestLeastIsNotBelowZero(t *testing.T) {
	low := api.RayCross{H1: 1, V1: 7000, H2: 1, V2: 7000}
	expect(t, "Least", least(t, low), api.OK, api.Range{Lo: 0, Hi: 2858}, api.OK)
}

// TestLeastTakesTheNextPlace has a crossing whose next place is the faster one.
func TestLeastTakesTheNextPlace(t *testing.T) {
	c := api.RayCross{X1: 0, H1: 1, V1: 10000, X2: 1, H2: 1, V2: 500}
	at, e := ray.Crossing(c)
	expect(t, "Crossing", at, e, 0, api.OK)
	// There 1000 and 28284.. are needed, at the next place 1414.. and 20000.
	expect(t, "Least", least(t, c), api.OK, api.Range{Lo: 21414 - 1000 - 20000, Hi: 21415}, api.OK)
}

func TestCheckCrossAtItsLimits(t *testing.T) {
	for _, c := range crossings() {
		expectError(t, "CheckCross", ray.CheckCross(c), api.OK)
	}
}

func TestCrossingsRefuse(t *testing.T) {
	change := func(f func(c *api.RayCross)) api.RayCross {
		c := middle
		f(&c)
		return c
	}
	wrong := []api.RayCross{{}}
	for _, n := range []int{100001, -100001, huge, -huge - 1} {
		wrong = append(wrong, change(func(c *api.RayCross) { c.X1 = n }), change(func(c *api.RayCross) { c.X2 = n }))
	}
	for _, n := range []int{0, -1, 100001, huge, -huge - 1} {
		wrong = append(wrong, change(func(c *api.RayCross) { c.H1 = n }), change(func(c *api.RayCross) { c.H2 = n }))
	}
	for _, n := range []int{499, 10001, 0, huge, -huge - 1} {
		wrong = append(wrong, change(func(c *api.RayCross) { c.V1 = n }), change(func(c *api.RayCross) { c.V2 = n }))
	}
	for _, c := range wrong {
		expectError(t, "CheckCross", ray.CheckCross(c), api.ErrRange)
		expectError(t, "CheckCrossing", ray.CheckCrossing(c, 0), api.ErrRange)
		at, e := ray.Crossing(c)
		expect(t, "Crossing", at, e, 0, api.ErrRange)
		r, e := ray.Least(c)
		expect(t, "Least", r, e, api.Range{}, api.ErrRange)
		for _, at := range []int{0, 400, huge, -huge - 1} {
			s, e := ray.SlopeAt(c, at)
			expect(t, "SlopeAt", s, e, 0, api.ErrRange)
			r, e := ray.TimeAt(c, at)
			expect(t, "TimeAt", r, e, api.Range{}, api.ErrRange)
		}
	}
}

func TestPlacesOutsideOfACrossing(t *testing.T) {
	turned := api.RayCross{X1: 800, H1: 300, V1: 2500, X2: 0, H2: 300, V2: 2500}
	for _, c := range []api.RayCross{middle, turned} {
		for _, at := range []int{-1, 801, huge, -huge - 1} {
			s, e := ray.SlopeAt(c, at)
			expect(t, "SlopeAt", s, e, 0, api.ErrRange)
			r, e := ray.TimeAt(c, at)
			expect(t, "TimeAt", r, e, api.Range{}, api.ErrRange)
			expectError(t, "CheckCrossing", ray.CheckCrossing(c, at), api.ErrRange)
		}
		for _, at := range []int{0, 800} {
			_, e := ray.TimeAt(c, at)
			expectError(t, "TimeAt an end", e, api.OK)
			expectError(t, "CheckCrossing at an end", ray.CheckCrossing(c, at), api.ErrProof)
		}
	}
}

func TestNoPlaceIsFasterThanTheLeastTime(t *testing.T) { // P1.6
	for _, c := range crossings() {
		l := least(t, c)
		at, _ := ray.Crossing(c)
		for _, place := range append(someOf(c), at) {
			r, _ := ray.TimeAt(c, place)
			if r.Hi < l.Lo {
				t.Errorf("%v takes %v at %d, less than %v", c, r, place, l)
			}
		}
		if l.Lo > l.Hi {
			t.Errorf("%v has the least time %v", c, l)
		}
		first, _ := ray.SlopeAt(c, min(c.X1, c.X2))
		last, _ := ray.SlopeAt(c, max(c.X1, c.X2))
		if first > 0 || last < 0 {
			t.Errorf("%v has the slopes %d and %d at its ends", c, first, last)
		}
	}
}

func TestSlopeNeverFalls(t *testing.T) { // P1.6
	var n numbers = 3
	for range 200 {
		c := n.crossing(60)
		before := -1
		for at := min(c.X1, c.X2); at <= max(c.X1, c.X2); at++ {
			s, _ := ray.SlopeAt(c, at)
			if s < before {
				t.Errorf("the slope of %v falls at %d", c, at)
			}
			before = s
		}
	}
}

func TestSymmetry(t *testing.T) { // P1.7
	for _, c := range crossings() {
		l := least(t, c)
		exchanged := api.RayCross{X1: c.X2, H1: c.H2, V1: c.V2, X2: c.X1, H2: c.H1, V2: c.V1}
		if r := least(t, exchanged); !meet(l, r) {
			t.Errorf("%v: %v, exchanged %v", c, l, r)
		}
		mirrored := c
		mirrored.X1, mirrored.X2 = -c.X1, -c.X2
		if r := least(t, mirrored); !meet(l, r) {
			t.Errorf("%v: %v, mirrored %v", c, l, r)
		}
		for _, by := range []int{1, -1, 17, -4000} {
			moved := c
			moved.X1, moved.X2 = c.X1+by, c.X2+by
			if ray.CheckCross(moved) == api.OK {
				expect(t, "Least of a moved one", least(t, moved), api.OK, l, api.OK)
			}
		}
	}
}
