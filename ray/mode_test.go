package ray_test

import (
	"slices"
	"testing"

	"couplant/api"
	"couplant/ray"
)

// P1.3 and P1.4, and their consequence P1.8

// plate is the mode of the examples.
func plate(skips int) api.RayMode {
	return api.RayMode{Wedge: 2500, Metal: 5000, Skips: skips, Thick: 1000}
}

// wrongModes are modes with one wrong number each.
func wrongModes() []api.RayMode {
	var l []api.RayMode
	for _, v := range []int{499, 10001, 0, -2500, huge, -huge - 1} {
		l = append(l, api.RayMode{Wedge: v, Metal: 5000, Thick: 1000}, api.RayMode{Wedge: 2500, Metal: v, Thick: 1000})
	}
	for _, n := range []int{-1, 5, huge, -huge - 1} {
		l = append(l, plate(n))
	}
	for _, n := range []int{1, 0, -1000, 20001, huge, -huge - 1} {
		l = append(l, api.RayMode{Wedge: 2500, Metal: 5000, Thick: n})
	}
	return append(l, api.RayMode{})
}

var (
	wedge = api.Spot{Z: -300}
	inner = api.Spot{Z: 400}
)

func TestCheckMode(t *testing.T) {
	for _, m := range []api.RayMode{
		plate(0), plate(4),
		{Wedge: 500, Metal: 10000, Thick: 2},
		{Wedge: 10000, Metal: 500, Skips: 4, Thick: 20000},
	} {
		expectError(t, "CheckMode", ray.CheckMode(m), api.OK)
	}
	for _, m := range wrongModes() {
		expectError(t, "CheckMode of a wrong one", ray.CheckMode(m), api.ErrRange)
	}
}

func TestUnfolded(t *testing.T) {
	for skips, want := range []int{400, 1600, 2400, 3600, 4400} {
		n, e := ray.Unfolded(plate(skips), 400)
		expect(t, "Unfolded", n, e, want, api.OK)
	}
	for _, x := range [][2]int{{1, 1999}, {999, 1001}} {
		n, e := ray.Unfolded(plate(1), x[0])
		expect(t, "Unfolded beside a wall", n, e, x[1], api.OK)
	}
	for _, z := range []int{0, 1000, -1, 1001} {
		n, e := ray.Unfolded(plate(1), z)
		expect(t, "Unfolded outside", n, e, 0, api.ErrBreak)
	}
	for _, m := range wrongModes() {
		n, e := ray.Unfolded(m, -1)
		expect(t, "Unfolded of a wrong mode", n, e, 0, api.ErrRange)
	}
}

func TestUnfoldedDepthsOfTwoSkips(t *testing.T) { // P1.8
	for _, skips := range []int{0, 2} {
		for _, z := range []int{1, 2, 400, 999} {
			even, _ := ray.Unfolded(plate(skips), z)
			odd, _ := ray.Unfolded(plate(skips+1), z)
			expect(t, "both depths", even+odd, api.OK, 2*1000*(skips+1), api.OK)
		}
	}
}

func TestModeExamples(t *testing.T) {
	x, e := ray.CrossOf(plate(1), wedge, inner)
	expect(t, "CrossOf", x, e, api.RayCross{H1: 300, V1: 2500, H2: 1600, V2: 5000}, api.OK)
	r, e := ray.LeastTime(plate(1), wedge, inner)
	expect(t, "LeastTime", r, e, api.Range{Lo: 4399984, Hi: 4400000}, api.OK)
	n, e := ray.RoundedTime(plate(1), wedge, inner)
	expect(t, "RoundedTime", n, e, 4399992, api.OK)
	w, e := ray.Walls(plate(1), wedge, inner)
	expectList(t, "Walls", w, e, []api.Range{{}}, api.OK)
	r, e = ray.LeastTime(plate(0), wedge, inner)
	expect(t, "LeastTime straight", r, e, api.Range{Lo: 1999981, Hi: 2000000}, api.OK)
	n, e = ray.RoundedTime(plate(0), wedge, inner)
	expect(t, "RoundedTime down", n, e, 1999990, api.OK)
	w, e = ray.Walls(plate(0), wedge, inner)
	expectList(t, "Walls without skips", w, e, nil, api.OK)
}

func TestModesAreCrossings(t *testing.T) {
	var n numbers = 11
	for range 500 {
		m, from, to := n.way()
		depth, _ := ray.Unfolded(m, to.Z)
		want := api.RayCross{X1: from.X, H1: -from.Z, V1: m.Wedge, X2: to.X, H2: depth, V2: m.Metal}
		x, e := ray.CrossOf(m, from, to)
		expect(t, "CrossOf", x, e, want, api.OK)
		l := least(t, want)
		r, e := ray.LeastTime(m, from, to)
		expect(t, "LeastTime", r, e, l, api.OK)
		middle, e := ray.RoundedTime(m, from, to)
		expect(t, "RoundedTime", middle, e, (l.Lo+l.Hi)/2, api.OK)
	}
}

func TestWalls(t *testing.T) {
	// From (0, -1) to (100, 1) in a plate of 3, one speed: the crossing of 4
	// skips is that of the heights 1 and 13: at 7.
	m := api.RayMode{Wedge: 5000, Metal: 5000, Skips: 4, Thick: 3}
	w, e := ray.Walls(m, api.Spot{Z: -1}, api.Spot{X: 100, Z: 1})
	expectList(t, "Walls", w, e, []api.Range{{Lo: 28, Hi: 29}, {Lo: 49, Hi: 50}, {Lo: 71, Hi: 72}, {Lo: 92, Hi: 93}}, api.OK)
	// The other way: the crossing is at -8, as the exact one lies behind it.
	w, e = ray.Walls(m, api.Spot{Z: -1}, api.Spot{X: -100, Z: 1})
	expectList(t, "Walls to the left", w, e, []api.Range{{Lo: -30, Hi: -29}, {Lo: -51, Hi: -50}, {Lo: -72, Hi: -71}, {Lo: -93, Hi: -92}}, api.OK)
}

func TestWallsAreRounded(t *testing.T) {
	var n numbers = 13
	for range 300 {
		m, from, to := n.way()
		x, _ := ray.CrossOf(m, from, to)
		at, _ := ray.Crossing(x)
		w, e := ray.Walls(m, from, to)
		expectError(t, "Walls", e, api.OK)
		if len(w) != m.Skips {
			t.Fatalf("Walls of %v: %v", m, w)
		}
		for j, r := range w {
			// r times H2 encloses the exact number times H2, by less than H2.
			exact := at*x.H2 + (to.X-at)*(j+1)*m.Thick
			if r.Lo*x.H2 > exact || r.Hi*x.H2 < exact || exact-r.Lo*x.H2 >= x.H2 || r.Hi*x.H2-exact >= x.H2 {
				t.Errorf("wall %d of %v: %v", j+1, m, r)
			}
		}
	}
}

// wayErrors returns the errors of all functions of ways of a mode, which are
// the same one; beside an error their results are zero.
func wayErrors(t *testing.T, what string, m api.RayMode, from, to api.Spot, want api.Errno) {
	t.Helper()
	x, e := ray.CrossOf(m, from, to)
	expect(t, what+": CrossOf", x, e, api.RayCross{}, want)
	r, e := ray.LeastTime(m, from, to)
	expect(t, what+": LeastTime", r, e, api.Range{}, want)
	n, e := ray.RoundedTime(m, from, to)
	expect(t, what+": RoundedTime", n, e, 0, want)
	w, e := ray.Walls(m, from, to)
	expectList(t, what+": Walls", w, e, nil, want)
	l, e := ray.MayBeFirst([]api.RayMode{m}, from, to)
	expectList(t, what+": MayBeFirst", l, e, nil, want)
	r, e = ray.EchoTime(api.RayEcho{Out: m, Back: plate(0), From: from, At: to, To: wedge})
	expect(t, what+": EchoTime", r, e, api.Range{}, want)
}

func TestModesRefuse(t *testing.T) {
	for _, m := range wrongModes() {
		wayErrors(t, "a wrong mode", m, wedge, inner, api.ErrRange)
		wayErrors(t, "a wrong mode of a wrong way", m, inner, wedge, api.ErrRange)
	}
	for _, far := range []api.Spot{{X: 100001, Z: -1}, {X: -100001, Z: 1}, {Z: 100001}, {Z: -100001}} {
		wayErrors(t, "from far away", plate(1), far, inner, api.ErrRange)
		wayErrors(t, "to far away", plate(1), wedge, far, api.ErrRange)
		wayErrors(t, "to far away, not from the wedge", plate(1), inner, far, api.ErrRange)
	}
	for _, z := range []int{0, 1, 100000} {
		wayErrors(t, "not from the wedge", plate(1), api.Spot{Z: z}, inner, api.ErrKind)
		wayErrors(t, "not from the wedge, nor to the plate", plate(1), api.Spot{Z: z}, wedge, api.ErrKind)
	}
	for _, z := range []int{0, -1, 1000, 100000, -100000} {
		wayErrors(t, "not to the plate", plate(1), wedge, api.Spot{Z: z}, api.ErrBreak)
	}
}

func TestModesAtTheirLimits(t *testing.T) {
	m := api.RayMode{Wedge: 500, Metal: 500, Skips: 4, Thick: 20000}
	x, e := ray.CrossOf(m, api.Spot{X: -100000, Z: -100000}, api.Spot{X: 100000, Z: 19999})
	expect(t, "CrossOf", x, e, api.RayCross{X1: -100000, H1: 100000, V1: 500, X2: 100000, H2: 99999, V2: 500}, api.OK)
	r, e := ray.LeastTime(api.RayMode{Wedge: 500, Metal: 500, Thick: 2}, api.Spot{Z: -1}, api.Spot{Z: 1})
	expect(t, "LeastTime", r, e, api.Range{Lo: 0, Hi: 40000}, api.OK)
}

func TestTurnedTimeExamples(t *testing.T) {
	r, e := ray.TurnedTime(api.RayTurn{To: api.Spot{Z: 600}, Thick: 1000, First: 5000, Second: 2500})
	expect(t, "TurnedTime from the surface", r, e, api.Range{Lo: 3599988, Hi: 3600000}, api.OK)
	x := api.RayTurn{To: api.Spot{X: 600, Z: 600}, Thick: 1000, First: 5000, Second: 5000}
	r, e = ray.TurnedTime(x)
	want := least(t, api.RayCross{H1: 1000, V1: 5000, X2: 600, H2: 400, V2: 5000})
	expect(t, "TurnedTime", r, e, want, api.OK)
	r, e = ray.TurnedTime(api.RayTurn{From: api.Spot{Z: 600}, Thick: 1000, First: 2500, Second: 5000})
	expect(t, "TurnedTime to the surface", r, e, api.Range{Lo: 3599988, Hi: 3600000}, api.OK)
}

func TestTurnsAreCrossings(t *testing.T) {
	var n numbers = 17
	for range 300 {
		x := api.RayTurn{Thick: n.from(2, api.MaxRayThick), First: n.speed(), Second: n.speed()}
		x.From = api.Spot{X: n.from(-9000, 9000), Z: n.from(0, x.Thick-1)}
		x.To = api.Spot{X: n.from(-9000, 9000), Z: n.from(0, x.Thick-1)}
		r, e := ray.TurnedTime(x)
		want := least(t, api.RayCross{
			X1: x.From.X, H1: x.Thick - x.From.Z, V1: x.First,
			X2: x.To.X, H2: x.Thick - x.To.Z, V2: x.Second,
		})
		expect(t, "TurnedTime", r, e, want, api.OK)
	}
}

func TestTurnsRefuse(t *testing.T) {
	good := api.RayTurn{From: inner, To: inner, Thick: 1000, First: 5000, Second: 5000}
	refuse := func(what string, want api.Errno, f func(x *api.RayTurn)) {
		t.Helper()
		x := good
		f(&x)
		r, e := ray.TurnedTime(x)
		expect(t, what, r, e, api.Range{}, want)
	}
	for _, far := range []api.Spot{{X: 100001, Z: 1}, {X: -100001, Z: 1}, {Z: 100001}, {Z: -100001}} {
		refuse("from far away", api.ErrRange, func(x *api.RayTurn) { x.From = far })
		refuse("to far away", api.ErrRange, func(x *api.RayTurn) { x.To = far })
		refuse("to far away from the wedge", api.ErrRange, func(x *api.RayTurn) { x.From, x.To = wedge, far })
	}
	for _, thick := range []int{1, 0, -1, 20001} {
		refuse("a wrong thickness", api.ErrRange, func(x *api.RayTurn) { x.Thick = thick })
		refuse("a wrong thickness ahead of a break", api.ErrRange, func(x *api.RayTurn) { x.Thick, x.From = thick, wedge })
	}
	for _, z := range []int{-1, 1000, 1001, 100000} {
		refuse("from outside", api.ErrBreak, func(x *api.RayTurn) { x.From.Z = z })
		refuse("to outside", api.ErrBreak, func(x *api.RayTurn) { x.To.Z = z })
		refuse("from outside with a wrong speed", api.ErrBreak, func(x *api.RayTurn) { x.From.Z, x.First = z, 0 })
		refuse("to outside with a wrong speed", api.ErrBreak, func(x *api.RayTurn) { x.To.Z, x.First = z, 0 })
	}
	for _, v := range []int{499, 10001, 0, -5000} {
		refuse("a wrong first speed", api.ErrRange, func(x *api.RayTurn) { x.First = v })
		refuse("a wrong second speed", api.ErrRange, func(x *api.RayTurn) { x.Second = v })
	}
}

func TestEchoTime(t *testing.T) {
	r, e := ray.EchoTime(api.RayEcho{Out: plate(1), Back: plate(1), From: wedge, At: inner, To: wedge})
	expect(t, "EchoTime", r, e, api.Range{Lo: 8799968, Hi: 8800000}, api.OK)
	r, e = ray.EchoTime(api.RayEcho{Out: plate(1), Back: plate(0), From: wedge, At: inner, To: wedge})
	expect(t, "EchoTime of two modes", r, e, api.Range{Lo: 4399984 + 1999981, Hi: 6400000}, api.OK)
	var n numbers = 19
	for range 200 {
		out, from, at := n.way()
		back, to, _ := n.way()
		back.Thick = max(back.Thick, out.Thick)
		first, _ := ray.LeastTime(out, from, at)
		second, _ := ray.LeastTime(back, to, at)
		r, e := ray.EchoTime(api.RayEcho{Out: out, Back: back, From: from, At: at, To: to})
		expect(t, "EchoTime", r, e, sum(first, second), api.OK)
	}
}

func TestEchoesRefuse(t *testing.T) {
	thin := api.RayMode{Wedge: 2500, Metal: 5000, Thick: 400}
	good := api.RayEcho{Out: plate(1), Back: plate(0), From: wedge, At: inner, To: wedge}
	refuse := func(what string, want api.Errno, f func(x *api.RayEcho)) {
		t.Helper()
		x := good
		f(&x)
		r, e := ray.EchoTime(x)
		expect(t, what, r, e, api.Range{}, want)
	}
	for _, m := range wrongModes() {
		refuse("a wrong mode back", api.ErrRange, func(x *api.RayEcho) { x.Back = m })
		refuse("a wrong mode back ahead of the ways", api.ErrRange, func(x *api.RayEcho) { x.Back, x.From = m, inner })
	}
	far := api.Spot{X: 100001, Z: -1}
	refuse("to far away", api.ErrRange, func(x *api.RayEcho) { x.To = far })
	refuse("to the plate", api.ErrKind, func(x *api.RayEcho) { x.To = inner })
	refuse("not at a place of the plate back", api.ErrBreak, func(x *api.RayEcho) { x.Back = thin })
	refuse("to the plate, not at a place of the plate back", api.ErrKind, func(x *api.RayEcho) { x.To, x.Back = inner, thin })
	refuse("out ahead of back", api.ErrBreak, func(x *api.RayEcho) { x.Out, x.To = thin, inner })
	refuse("from ahead of to", api.ErrKind, func(x *api.RayEcho) { x.From, x.To = inner, far })
	refuse("at ahead of to", api.ErrBreak, func(x *api.RayEcho) { x.At, x.To = wedge, far })
}

func TestMayBeFirst(t *testing.T) {
	l, e := ray.MayBeFirst([]api.RayMode{plate(1), plate(0), plate(0)}, wedge, inner)
	expectList(t, "MayBeFirst", l, e, []int{1, 2}, api.OK)
	l, e = ray.MayBeFirst([]api.RayMode{plate(3)}, wedge, inner)
	expectList(t, "MayBeFirst of one", l, e, []int{0}, api.OK)
	eight := slices.Repeat([]api.RayMode{plate(2)}, api.MaxRayModes)
	l, e = ray.MayBeFirst(eight, wedge, inner)
	expectList(t, "MayBeFirst of equal ones", l, e, []int{0, 1, 2, 3, 4, 5, 6, 7}, api.OK)
	// A time that ends where the other one begins may still be the least one.
	quick, slow := api.RayMode{Wedge: 2500, Metal: 5000, Thick: 1000}, api.RayMode{Wedge: 2500, Metal: 4999, Thick: 1000}
	for z := 1; z < 40; z++ {
		to := api.Spot{Z: z}
		first, _ := ray.LeastTime(quick, wedge, to)
		second, _ := ray.LeastTime(slow, wedge, to)
		want := []int{0}
		if second.Lo <= first.Hi {
			want = []int{0, 1}
		}
		l, e = ray.MayBeFirst([]api.RayMode{quick, slow}, wedge, to)
		expectList(t, "MayBeFirst of near ones", l, e, want, api.OK)
	}
}

// TestMayBeFirstAtTheVeryEnd looks for times of which the one ends just where
// the other one begins.
func TestMayBeFirstAtTheVeryEnd(t *testing.T) {
	touched := false
	for v := 4000; v < 5000; v++ {
		modes := []api.RayMode{plate(0), {Wedge: 2500, Metal: v, Thick: 1000}}
		for z := 1; z < 9; z++ {
			to := api.Spot{Z: z}
			first, _ := ray.LeastTime(modes[0], wedge, to)
			second, _ := ray.LeastTime(modes[1], wedge, to)
			if second.Lo == first.Hi {
				touched = true
				l, e := ray.MayBeFirst(modes, wedge, to)
				expectList(t, "MayBeFirst", l, e, []int{0, 1}, api.OK)
			}
		}
	}
	if !touched {
		t.Error("no times touch each other")
	}
}

func TestMayBeFirstRefuses(t *testing.T) {
	refuse := func(what string, l []api.RayMode, from, to api.Spot, want api.Errno) {
		t.Helper()
		got, e := ray.MayBeFirst(l, from, to)
		expectList(t, what, got, e, nil, want)
	}
	far := api.Spot{X: 100001, Z: -1}
	refuse("nil", nil, far, far, api.ErrShape)
	refuse("none", []api.RayMode{}, far, far, api.ErrShape)
	refuse("nine", make([]api.RayMode, 9), far, far, api.ErrLarge)
	thin := api.RayMode{Wedge: 2500, Metal: 5000, Thick: 400}
	for _, m := range wrongModes() {
		refuse("a wrong mode", []api.RayMode{plate(0), m}, wedge, inner, api.ErrRange)
		refuse("a wrong mode behind a wrong way", []api.RayMode{plate(0), m}, inner, inner, api.ErrKind)
		refuse("a wrong mode behind a thin plate", []api.RayMode{thin, m}, wedge, inner, api.ErrBreak)
		refuse("a wrong mode ahead of a thin plate", []api.RayMode{m, thin}, wedge, inner, api.ErrRange)
	}
}

func TestMayBeFirstLeavesItsArgument(t *testing.T) {
	l := []api.RayMode{plate(1), plate(0), plate(2)}
	before := slices.Clone(l)
	first, _ := ray.MayBeFirst(l, wedge, inner)
	second, _ := ray.MayBeFirst(l, wedge, inner)
	expectList(t, "the modes", l, api.OK, before, api.OK)
	first[0] = 7
	expectList(t, "a second result", second, api.OK, []int{1}, api.OK)
}

func TestOneSpeedIsStraight(t *testing.T) { // P1.8
	var n numbers = 23
	for range 500 {
		m, from, to := n.way()
		m.Metal = m.Wedge
		depth, _ := ray.Unfolded(m, to.Z)
		straight, e := ray.TimeOf(from, api.Spot{X: to.X, Z: depth}, m.Metal)
		expectError(t, "TimeOf", e, api.OK)
		r, _ := ray.LeastTime(m, from, to)
		if !meet(r, straight) {
			t.Errorf("%v from %v to %v: %v, straight %v", m, from, to, r, straight)
		}
	}
}

func TestMoreSkipsAreNotFaster(t *testing.T) { // P1.8
	var n numbers = 29
	for range 300 {
		m, from, to := n.way()
		before := 0
		for skips := range api.MaxSkips + 1 {
			m.Skips = skips
			r, _ := ray.LeastTime(m, from, to)
			if r.Hi < before {
				t.Errorf("%v from %v to %v: %v, with fewer skips from %d", m, from, to, r, before)
			}
			before = max(before, r.Lo)
		}
	}
}
