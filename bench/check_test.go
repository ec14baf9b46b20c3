package bench_test

import (
	"testing"

	"couplant/api"
	"couplant/bench"
)

// P4.1

func TestCheckArrayAccepts(t *testing.T) {
	limits := two().Array
	limits.Elements = []api.Spot{{X: 100000, Z: -1}, {X: -100000, Z: -100000}}
	limits.Out = api.RayMode{Wedge: 500, Metal: 10000, Skips: 4, Thick: 20000}
	limits.Back = api.RayMode{Wedge: 10000, Metal: 500, Thick: 20000}
	limits.Times = api.Sampling{First: 1000000000000, Step: 100000000}
	least := one().Array
	least.Out.Thick, least.Back.Thick = 2, 2
	least.Times = api.Sampling{Step: 1}
	same := one().Array
	same.Elements = make([]api.Spot, 16)
	for k := range same.Elements {
		same.Elements[k] = at
		same.Elements[k].Z = -5
	}
	for _, a := range []api.BenchArray{one().Array, two().Array, limits, least, same} {
		n, e := bench.CheckArray(a)
		expect(t, "CheckArray", n, e, 0, api.OK)
	}
}

// elementFault returns what is wrong with an element.
func elementFault(n int, p api.Spot, want api.Errno) fault[api.BenchArray] {
	return fault[api.BenchArray]{func(a *api.BenchArray) { a.Elements[n] = p }, n, want}
}

// arrayFaults returns what may be wrong with the array of two elements, in the
// order in which it is told.
func arrayFaults() []fault[api.BenchArray] {
	type array = api.BenchArray
	return []fault[array]{
		elementFault(0, api.Spot{X: 100001, Z: 0}, api.ErrRange),
		elementFault(0, api.Spot{X: -huge - 1, Z: -1}, api.ErrRange),
		elementFault(0, api.Spot{Z: -100001}, api.ErrRange),
		elementFault(0, api.Spot{Z: 100001}, api.ErrRange),
		elementFault(0, api.Spot{Z: 0}, api.ErrKind),
		elementFault(0, api.Spot{Z: 100000}, api.ErrKind),
		elementFault(1, api.Spot{X: -100001, Z: 1}, api.ErrRange),
		elementFault(1, api.Spot{Z: 1}, api.ErrKind),
		{func(a *array) { a.Out.Wedge = 499 }, 0, api.ErrRange},
		{func(a *array) { a.Out.Metal = 10001 }, 0, api.ErrRange},
		{func(a *array) { a.Out.Skips = 5 }, 0, api.ErrRange},
		{func(a *array) { a.Out.Thick, a.Back.Thick = 1, 1 }, 0, api.ErrRange},
		{func(a *array) { a.Back.Wedge = 10001 }, 0, api.ErrRange},
		{func(a *array) { a.Back.Metal = 499 }, 0, api.ErrRange},
		{func(a *array) { a.Back.Skips = -1 }, 0, api.ErrRange},
		{func(a *array) { a.Back.Thick = 20001 }, 0, api.ErrRange},
		{func(a *array) { a.Back.Thick-- }, 0, api.ErrUnit},
		{func(a *array) { a.Times.First = -1 }, 0, api.ErrRange},
		{func(a *array) { a.Times.First = 1000000000001 }, 0, api.ErrRange},
		{func(a *array) { a.Times.Step = 0 }, 0, api.ErrRange},
		{func(a *array) { a.Times.Step = 100000001 }, 0, api.ErrRange},
	}
}

func freshArray() api.BenchArray {
	return two().Array
}

func TestCheckArrayRefuses(t *testing.T) {
	eachFault(freshArray, arrayFaults(), func(a api.BenchArray, n int, want api.Errno) {
		got, e := bench.CheckArray(a)
		expect(t, "CheckArray", got, e, n, want)
	})
}

func TestCheckArrayCountsElementsFirst(t *testing.T) {
	n, e := bench.CheckArray(api.BenchArray{})
	expect(t, "CheckArray of nothing", n, e, 0, api.ErrShape)
	a := one().Array
	a.Elements = []api.Spot{}
	n, e = bench.CheckArray(a)
	expect(t, "CheckArray of an empty list", n, e, 0, api.ErrShape)
	n, e = bench.CheckArray(api.BenchArray{Elements: make([]api.Spot, 17)})
	expect(t, "CheckArray of 17 wrong elements", n, e, 0, api.ErrLarge)
	n, e = bench.CheckArray(api.BenchArray{Elements: make([]api.Spot, 16)})
	expect(t, "CheckArray of 16 wrong elements", n, e, 0, api.ErrKind)
}

func TestCheckFlawAccepts(t *testing.T) {
	for _, f := range []api.BenchFlaw{
		{}, level(),
		pore(100000, -100000, 1000), pore(-100000, 100000, -1000), pore(0, 0, 0),
		plane(api.Spot{X: 100000, Z: -100000}, api.Spot{X: -100000, Z: 100000}, 20, 1000, -1000),
		plane(at, api.Spot{X: 1, Z: 400}, 1, -1000, 1000),
		plane(at, api.Spot{X: 0, Z: 401}, 20, 0, 0),
		plane(at, api.Spot{}, 1, 0, 0),
	} {
		if e := bench.CheckFlaw(f); e != api.OK {
			t.Errorf("CheckFlaw of %v: error %d", f, e)
		}
	}
}

func TestCheckFlawRefusesPores(t *testing.T) {
	type flaw = api.BenchFlaw
	fresh := func() flaw { return pore(0, 400, 10) }
	faults := []fault[flaw]{
		{func(f *flaw) { f.Kind = 2 }, 0, api.ErrKind},
		{func(f *flaw) { f.Kind = -1 }, 0, api.ErrKind},
		{func(f *flaw) { f.Kind = -huge - 1 }, 0, api.ErrKind},
		{func(f *flaw) { f.From.X = 100001 }, 0, api.ErrRange},
		{func(f *flaw) { f.From.X = -100001 }, 0, api.ErrRange},
		{func(f *flaw) { f.From.Z = 100001 }, 0, api.ErrRange},
		{func(f *flaw) { f.From.Z = -huge - 1 }, 0, api.ErrRange},
		{func(f *flaw) { f.Amplitude = 1001 }, 0, api.ErrRange},
		{func(f *flaw) { f.Amplitude = -1001 }, 0, api.ErrRange},
		{func(f *flaw) { f.Amplitude = -huge - 1 }, 0, api.ErrRange},
		{func(f *flaw) { f.To.X = 1 }, 0, api.ErrForm},
		{func(f *flaw) { f.To.Z = -1 }, 0, api.ErrForm},
		{func(f *flaw) { f.To = f.From }, 0, api.ErrForm},
		{func(f *flaw) { f.To.X = huge }, 0, api.ErrForm},
		{func(f *flaw) { f.Pieces = 1 }, 0, api.ErrForm},
		{func(f *flaw) { f.Pieces = -1 }, 0, api.ErrForm},
		{func(f *flaw) { f.Tip = 1 }, 0, api.ErrForm},
		{func(f *flaw) { f.Tip = -1 }, 0, api.ErrForm},
	}
	eachFault(fresh, faults, func(f flaw, _ int, want api.Errno) {
		expect(t, "CheckFlaw", 0, bench.CheckFlaw(f), 0, want)
	})
}

func TestCheckFlawRefusesPlanes(t *testing.T) {
	type flaw = api.BenchFlaw
	faults := []fault[flaw]{
		{func(f *flaw) { f.Kind = 2 }, 0, api.ErrKind},
		{func(f *flaw) { f.From.X = -100001 }, 0, api.ErrRange},
		{func(f *flaw) { f.From.Z = 100001 }, 0, api.ErrRange},
		{func(f *flaw) { f.Amplitude = 1001 }, 0, api.ErrRange},
		{func(f *flaw) { f.Amplitude = -1001 }, 0, api.ErrRange},
		{func(f *flaw) { f.To.X = 100001 }, 0, api.ErrRange},
		{func(f *flaw) { f.To.Z = -100001 }, 0, api.ErrRange},
		{func(f *flaw) { f.To.Z = huge }, 0, api.ErrRange},
		{func(f *flaw) { f.Pieces = 0 }, 0, api.ErrRange},
		{func(f *flaw) { f.Pieces = 21 }, 0, api.ErrRange},
		{func(f *flaw) { f.Pieces = -huge - 1 }, 0, api.ErrRange},
		{func(f *flaw) { f.Tip = 1001 }, 0, api.ErrRange},
		{func(f *flaw) { f.Tip = -1001 }, 0, api.ErrRange},
		{func(f *flaw) { f.To = f.From }, 0, api.ErrZero},
	}
	eachFault(level, faults, func(f flaw, _ int, want api.Errno) {
		expect(t, "CheckFlaw", 0, bench.CheckFlaw(f), 0, want)
	})
}

func TestCheckSpecimenAccepts(t *testing.T) {
	checkSpecimen(t, one())
	checkSpecimen(t, two())
	checkSpecimen(t, with())
	checkSpecimen(t, with(pore(-100000, 1, 1000), pore(100000, 999, 0)))
	checkSpecimen(t, with(plane(api.Spot{Z: 1}, api.Spot{Z: 999}, 20, 0, 0), level(), level()))
	limits := one()
	limits.Pulse = []int{100, -100, 0, 0, 0, 0, 0, 0, 0, 0, 0, 0, 0, 0, 0, 0}
	for range 9 {
		limits.Flaws = append(limits.Flaws, pore(0, 400, 10))
	}
	checkSpecimen(t, limits)
}

func TestCheckSpecimenRefuses(t *testing.T) {
	type specimen = api.BenchSpecimen
	var faults []fault[specimen]
	for _, f := range arrayFaults() {
		faults = append(faults, fault[specimen]{func(s *specimen) { f.spoil(&s.Array) }, f.n, f.want})
	}
	flaw := func(n int, f api.BenchFlaw, want api.Errno) {
		faults = append(faults, fault[specimen]{func(s *specimen) { s.Flaws[n] = f }, n, want})
	}
	pulse := func(pulse []int, want api.Errno) {
		faults = append(faults, fault[specimen]{func(s *specimen) { s.Pulse = pulse }, 0, want})
	}
	pulse(nil, api.ErrShape)
	pulse([]int{}, api.ErrShape)
	pulse([]int{500, 16: 0}, api.ErrLarge)
	pulse([]int{15: 101}, api.ErrRange)
	pulse([]int{-101}, api.ErrRange)
	pulse([]int{1, -huge - 1}, api.ErrRange)
	faults = append(faults, fault[specimen]{func(s *specimen) {
		s.Flaws = append(s.Flaws, make([]api.BenchFlaw, 9)...)
	}, 0, api.ErrLarge})
	flaw(0, api.BenchFlaw{Kind: 5}, api.ErrKind)
	flaw(0, pore(100001, 0, 0), api.ErrRange)
	flaw(0, api.BenchFlaw{Pieces: 1}, api.ErrForm)
	flaw(0, plane(api.Spot{}, api.Spot{}, 1, 0, 0), api.ErrZero)
	flaw(0, plane(api.Spot{}, api.Spot{}, 0, 0, 0), api.ErrRange)
	flaw(0, pore(0, 0, 0), api.ErrBreak)
	flaw(0, pore(0, 1000, 0), api.ErrBreak)
	flaw(0, pore(0, -100000, 0), api.ErrBreak)
	flaw(0, plane(api.Spot{}, at, 1, 0, 0), api.ErrBreak)
	flaw(0, plane(at, api.Spot{}, 1, 0, 0), api.ErrBreak)
	flaw(0, plane(at, api.Spot{Z: 1000}, 1, 0, 0), api.ErrBreak)
	flaw(1, pore(0, 0, 1001), api.ErrRange)
	flaw(1, pore(0, 1001, 0), api.ErrBreak)
	eachFault(two, faults, func(s specimen, n int, want api.Errno) {
		got, e := bench.CheckSpecimen(s)
		expect(t, "CheckSpecimen", got, e, n, want)
	})
}

func TestCheckSpecimenTellsTheFirstFlaw(t *testing.T) {
	s := with(make([]api.BenchFlaw, 10)...)
	for k := range s.Flaws {
		s.Flaws[k] = pore(0, 400, 1)
	}
	s.Flaws[9].Amplitude = 1001
	n, e := bench.CheckSpecimen(s)
	expect(t, "CheckSpecimen", n, e, 9, api.ErrRange)
	s.Flaws[8].From.Z = 0
	n, e = bench.CheckSpecimen(s)
	expect(t, "CheckSpecimen", n, e, 8, api.ErrBreak)
	s.Array.Elements = nil
	n, e = bench.CheckSpecimen(s)
	expect(t, "CheckSpecimen", n, e, 0, api.ErrShape)
}
