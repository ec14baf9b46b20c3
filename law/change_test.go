package law_test

import (
	"slices"
	"testing"

	"couplant/api"
	"couplant/law"
)

// P2.4

func TestWithout(t *testing.T) {
	for _, x := range []struct {
		l    api.DelayLaw
		dead []int
		want api.DelayLaw
	}{
		{of(1200, 0), []int{0}, of(-1, 0)},
		{of(1200, 0), []int{1}, of(1200, -1)},
		{of(1200, 0), []int{0, 1}, of(-1, -1)},
		{of(1200, 0), nil, of(1200, 0)},
		{of(-1, 5, 7), []int{0, 2}, of(-1, 5, -1)},
		{api.DelayLaw{Clock: 7, Ticks: []int{5}}, []int{0}, api.DelayLaw{Clock: 7, Ticks: []int{-1}}},
	} {
		l, e := law.Without(x.l, x.dead)
		expect(t, "Without", l, e, x.want, api.OK)
	}
}

func TestWithoutRefuses(t *testing.T) {
	for want, l := range wrongLaws() {
		r, e := law.Without(l, []int{-1})
		expect(t, "Without of a wrong law", r, e, none, want)
	}
	for _, x := range []struct {
		dead []int
		want api.Errno
	}{
		{[]int{3}, api.ErrMissing},
		{[]int{-1}, api.ErrMissing},
		{[]int{huge}, api.ErrMissing},
		{[]int{-huge - 1}, api.ErrMissing},
		{[]int{1, 0}, api.ErrOrder},
		{[]int{1, 1}, api.ErrOrder},
		{[]int{1, 0, 3}, api.ErrOrder},
		{[]int{0, 3, 1}, api.ErrMissing},
		{[]int{2, -1}, api.ErrMissing},
	} {
		r, e := law.Without(of(5, 6, 7), x.dead)
		expect(t, "Without", r, e, none, x.want)
	}
}

func TestSending(t *testing.T) {
	for _, x := range []struct {
		l    api.DelayLaw
		want []int
	}{
		{of(-1, 0, 5), []int{1, 2}},
		{of(1000000), []int{0}},
		{of(-1, -1), nil},
		{of(0, -1, 0), []int{0, 2}},
	} {
		l, e := law.Sending(x.l)
		expect(t, "Sending", l, e, x.want, api.OK)
	}
	for want, l := range wrongLaws() {
		r, e := law.Sending(l)
		expect(t, "Sending of a wrong law", r, e, nil, want)
	}
}

func TestAperture(t *testing.T) {
	a := two()
	a.Elements = []api.Spot{{X: 40, Z: -300}, {X: -70, Z: -300}, {X: 90, Z: -400}, {X: 40, Z: -5}}
	for _, x := range []struct {
		l    api.DelayLaw
		want api.Range
	}{
		{of(0, 0, 0, 0), api.Range{Lo: -70, Hi: 90}},
		{of(0, -1, 3, 5), api.Range{Lo: 40, Hi: 90}},
		{of(7, 7, -1, -1), api.Range{Lo: -70, Hi: 40}},
		{of(-1, -1, -1, 2), api.Range{Lo: 40, Hi: 40}},
		{of(-1, 2, -1, -1), api.Range{Lo: -70, Hi: -70}},
	} {
		r, e := law.Aperture(a, x.l)
		expect(t, "Aperture", r, e, x.want, api.OK)
	}
	r, e := law.Aperture(a, of(-1, -1, -1, -1))
	expect(t, "Aperture of none", r, e, api.Range{}, api.ErrNone)
}

func TestApertureRefuses(t *testing.T) {
	for want, a := range wrongArrays() {
		r, e := law.Aperture(a, none)
		expect(t, "Aperture of a wrong array", r, e, api.Range{}, want)
	}
	for want, l := range wrongLaws() {
		r, e := law.Aperture(manyElements(3), l)
		expect(t, "Aperture of a wrong law", r, e, api.Range{}, want)
	}
	for _, l := range []api.DelayLaw{of(0), of(-1), of(0, 0, 0)} {
		r, e := law.Aperture(two(), l)
		expect(t, "Aperture of a law of another array", r, e, api.Range{}, api.ErrShape)
	}
}

func TestNormalised(t *testing.T) {
	for _, x := range []struct{ l, want api.DelayLaw }{
		{of(7, -1, 5), of(2, -1, 0)},
		{of(0, 3), of(0, 3)},
		{of(1000000), of(0)},
		{of(-1, 1), of(-1, 0)},
		{api.DelayLaw{Clock: 3, Ticks: []int{4, 4}}, api.DelayLaw{Clock: 3, Ticks: []int{0, 0}}},
	} {
		l, e := law.Normalised(x.l)
		expect(t, "Normalised", l, e, x.want, api.OK)
	}
	l, e := law.Normalised(of(-1, -1))
	expect(t, "Normalised of none", l, e, none, api.ErrNone)
	for want, l := range wrongLaws() {
		r, e := law.Normalised(l)
		expect(t, "Normalised of a wrong law", r, e, none, want)
	}
}

func TestAdded(t *testing.T) {
	for _, x := range []struct{ a, b, want api.DelayLaw }{
		{of(7, -1, 5), of(1, 1, -1), of(8, -1, -1)},
		{of(-1), of(-1), of(-1)},
		{of(0), of(0), of(0)},
		{of(999999), of(1), of(1000000)},
		{of(1000000), of(-1), of(-1)},
		{of(-1, 2), of(1000000, 3), of(-1, 5)},
	} {
		l, e := law.Added(x.a, x.b)
		expect(t, "Added", l, e, x.want, api.OK)
	}
}

func TestAddedRefuses(t *testing.T) {
	for want, l := range wrongLaws() {
		r, e := law.Added(l, none)
		expect(t, "Added of a wrong law", r, e, none, want)
		r, e = law.Added(api.DelayLaw{Clock: 7, Ticks: []int{0}}, l)
		expect(t, "Added of a right and a wrong law", r, e, none, want)
	}
	for _, x := range []struct {
		a, b api.DelayLaw
		want api.Errno
	}{
		{of(7), api.DelayLaw{Clock: 1, Ticks: []int{7}}, api.ErrUnit},
		{of(1000000), api.DelayLaw{Clock: 999, Ticks: []int{1, 1}}, api.ErrUnit},
		{of(7), of(7, 7), api.ErrShape},
		{of(1000000, 7), of(1), api.ErrShape},
		{of(1000000), of(1), api.ErrLarge},
		{of(0, 1000000), of(0, 1000000), api.ErrLarge},
	} {
		r, e := law.Added(x.a, x.b)
		expect(t, "Added", r, e, none, x.want)
	}
}

func TestRecast(t *testing.T) {
	for _, x := range []struct {
		ticks []int
		clock int
		want  []int
	}{
		{[]int{1200, -1}, 700, []int{1714, -1}},
		{[]int{1200, 0}, 1000, []int{1200, 0}},
		{[]int{-1, -1}, 1, []int{-1, -1}},
		{[]int{1, 3, 5}, 2000, []int{1, 2, 3}},
		{[]int{1, 3, 5}, 2001, []int{0, 1, 2}},
		{[]int{1, 3, 5}, 1999, []int{1, 2, 3}},
		{[]int{499, 500}, 1000000, []int{0, 1}},
		{[]int{1000}, 1, []int{1000000}},
		{[]int{1000000}, 1000, []int{1000000}},
		{[]int{1000000}, 1000000, []int{1000}},
	} {
		l, e := law.Recast(of(x.ticks...), x.clock)
		expect(t, "Recast", l, e, api.DelayLaw{Clock: x.clock, Ticks: x.want}, api.OK)
	}
	l, e := law.Recast(api.DelayLaw{Clock: 1000000, Ticks: []int{1000000}}, 1000000)
	expect(t, "Recast at the limits", l, e, api.DelayLaw{Clock: 1000000, Ticks: []int{1000000}}, api.OK)
}

func TestRecastIsAsDefined(t *testing.T) {
	var n numbers = 9
	for range 500 {
		l := n.law(manyElements(n.from(1, 16)))
		clock := n.from(1, 60000)
		want, f := api.DelayLaw{Clock: clock}, api.OK
		for _, ticks := range l.Ticks {
			if ticks >= 0 {
				ticks = nearest(ratio(ticks*l.Clock, clock))
			}
			if ticks > api.MaxTicks {
				f = api.ErrLarge
			}
			want.Ticks = append(want.Ticks, ticks)
		}
		if f != api.OK {
			want = none
		}
		r, e := law.Recast(l, clock)
		expect(t, "Recast", r, e, want, f)
	}
}

func TestRecastRefuses(t *testing.T) {
	for want, l := range wrongLaws() {
		r, e := law.Recast(l, 0)
		expect(t, "Recast of a wrong law", r, e, none, want)
	}
	for _, clock := range []int{0, -5, 1000001, huge, -huge - 1} {
		r, e := law.Recast(of(1000000), clock)
		expect(t, "Recast to a wrong clock", r, e, none, api.ErrRange)
	}
	r, e := law.Recast(of(1001), 1)
	expect(t, "Recast that is large", r, e, none, api.ErrLarge)
	// The limit is for ticks that are rounded: 1000000.5, and 1000000.33.
	r, e = law.Recast(api.DelayLaw{Clock: 3, Ticks: []int{666667}}, 2)
	expect(t, "Recast rounded beyond the limit", r, e, none, api.ErrLarge)
	r, e = law.Recast(api.DelayLaw{Clock: 3517, Ticks: []int{853}}, 3)
	expect(t, "Recast rounded to the limit", r, e, api.DelayLaw{Clock: 3, Ticks: []int{1000000}}, api.OK)
}

// R3

func TestChangesWriteIntoNoArgument(t *testing.T) {
	l := of(7, -1, 5)
	dead := []int{0}
	changes := map[string]func() (api.DelayLaw, api.Errno){
		"Without":         func() (api.DelayLaw, api.Errno) { return law.Without(l, dead) },
		"Without no one":  func() (api.DelayLaw, api.Errno) { return law.Without(l, nil) },
		"Normalised":      func() (api.DelayLaw, api.Errno) { return law.Normalised(l) },
		"Added":           func() (api.DelayLaw, api.Errno) { return law.Added(l, l) },
		"Recast":          func() (api.DelayLaw, api.Errno) { return law.Recast(l, 700) },
		"Recast the same": func() (api.DelayLaw, api.Errno) { return law.Recast(l, 1000) },
	}
	for what, change := range changes {
		r, e := change()
		expectError(t, what, e, api.OK)
		for i := range r.Ticks {
			r.Ticks[i] = 99
		}
		if !slices.Equal(l.Ticks, []int{7, -1, 5}) || dead[0] != 0 || l.Clock != 1000 {
			t.Fatalf("%s writes into its argument", what)
		}
	}
}

func TestCoarsestWritesIntoNoArgument(t *testing.T) {
	a, clocks := two(), []int{1000, 2000}
	law.Coarsest(a, focus, api.LawClocks{Clocks: clocks, Most: 19})
	expect(t, "the array", a, api.OK, two(), api.OK)
	expect(t, "the clocks", clocks, api.OK, []int{1000, 2000}, api.OK)
}
