package bench_test

import (
	"slices"
	"testing"

	"couplant/api"
	"couplant/bench"
)

// P4.4

func TestWithout(t *testing.T) {
	a, b, c := pore(0, 400, 10), level(), pore(5, 300, 7)
	s := with(a, b, c)
	expectAlike(t, "Without the first", must(bench.Without(s, 0)), with(b, c))
	expectAlike(t, "Without the second", must(bench.Without(s, 1)), with(a, c))
	expectAlike(t, "Without the third", must(bench.Without(s, 2)), with(a, b))
	expectAlike(t, "Without the only one", must(bench.Without(one(), 0)), with())
	for _, flaw := range []int{-1, 3, huge, -huge - 1} {
		x, e := bench.Without(s, flaw)
		refused(t, "Without", x, e, api.ErrMissing)
	}
	x, e := bench.Without(with(), 0)
	refused(t, "Without of none", x, e, api.ErrMissing)
}

// moved returns a specimen whose flaws have moved, by definition.
func moved(s api.BenchSpecimen, by int) api.BenchSpecimen {
	s = copied(s)
	for n, f := range s.Flaws {
		s.Flaws[n].From.X = f.From.X + by
		if f.Kind == api.BenchPlane {
			s.Flaws[n].To.X = f.To.X + by
		}
	}
	return s
}

func TestMoved(t *testing.T) {
	s := with(pore(0, 400, 10), level())
	want := with(pore(-7, 400, 10), plane(api.Spot{X: -7, Z: 400}, api.Spot{X: 23, Z: 400}, 3, 5, 2))
	expectAlike(t, "Moved", must(bench.Moved(s, -7)), want)
	expectAlike(t, "Moved by nothing", must(bench.Moved(s, 0)), s)
	expectAlike(t, "Moved without flaws", must(bench.Moved(with(), 100000)), with())
	var n numbers = 6
	for range 100 {
		s := n.specimen()
		by := n.from(-1000, 1000)
		x := must(bench.Moved(s, by))
		expectAlike(t, "Moved", x, moved(s, by))
		checkSpecimen(t, x)
		expectAlike(t, "Moved back", must(bench.Moved(x, -by)), s)
	}
}

func TestMovedToTheLimits(t *testing.T) {
	wide := plane(api.Spot{X: -100, Z: 5}, api.Spot{X: 200, Z: 5}, 1, 1, 1)
	back := plane(wide.To, wide.From, 1, 1, 1)
	for _, x := range []struct {
		f    api.BenchFlaw
		by   int
		want api.Errno
	}{
		{pore(0, 400, 10), 100000, api.OK},
		{pore(0, 400, 10), -100000, api.OK},
		{pore(0, 400, 10), 100001, api.ErrRange},
		{pore(0, 400, 10), -100001, api.ErrRange},
		{pore(1, 400, 10), 100000, api.ErrRange},
		{pore(1, 400, 10), 99999, api.OK},
		{pore(-1, 400, 10), -100000, api.ErrRange},
		{pore(100000, 400, 10), -100000, api.OK},
		{wide, 99800, api.OK}, {wide, 99801, api.ErrRange}, {wide, -99900, api.OK}, {wide, -99901, api.ErrRange},
		{back, 99800, api.OK}, {back, 99801, api.ErrRange}, {back, -99900, api.OK}, {back, -99901, api.ErrRange},
		{pore(-5, 400, 10), huge, api.ErrRange},
		{pore(-5, 400, 10), -huge - 1, api.ErrRange},
	} {
		s := with(pore(0, 400, 0), x.f)
		got, e := bench.Moved(s, x.by)
		if x.want != api.OK {
			refused(t, "Moved", got, e, x.want)
			continue
		}
		expect(t, "Moved", got, e, moved(s, x.by), api.OK)
	}
	for _, by := range []int{100001, -100001, huge, -huge - 1} {
		got, e := bench.Moved(with(), by)
		refused(t, "Moved without flaws", got, e, api.ErrRange)
	}
}

// alongOf returns the matrices of a scan, by definition.
func alongOf(s api.BenchSpecimen, step, count int) []api.FullMatrix {
	var l []api.FullMatrix
	for k := range count {
		l = append(l, must(bench.MatrixOf(moved(s, -k*step))))
	}
	return l
}

func TestAlong(t *testing.T) {
	expectAlike(t, "Along", must(bench.Along(two(), 40, 5)), alongOf(two(), 40, 5))
	expectAlike(t, "Along back", must(bench.Along(two(), -40, 5)), alongOf(two(), -40, 5))
	expectAlike(t, "Along by nothing", must(bench.Along(two(), 0, 2)), alongOf(two(), 0, 2))
	expectAlike(t, "Along once", must(bench.Along(two(), 100000, 1)), alongOf(two(), 0, 1))
	expectAlike(t, "Along without flaws", must(bench.Along(with(), 5000, 20)), alongOf(with(), 0, 20))
	var n numbers = 7
	for range 30 {
		s := n.specimen()
		step, count := n.from(-60, 60), n.from(1, 20)
		expectAlike(t, "Along", must(bench.Along(s, step, count)), alongOf(s, step, count))
	}
}

func TestAlongRefuses(t *testing.T) {
	for _, x := range []struct {
		step, count int
		want        api.Errno
	}{
		{100001, 1, api.ErrRange}, {-100001, 1, api.ErrRange}, {huge, 1, api.ErrRange}, {-huge - 1, 1, api.ErrRange},
		{1, 0, api.ErrRange}, {1, -1, api.ErrRange}, {1, 21, api.ErrRange}, {1, huge, api.ErrRange}, {1, -huge - 1, api.ErrRange},
		{100000, 3, api.ErrRange}, {-100000, 3, api.ErrRange}, {50001, 3, api.ErrRange},
		{100000, 2, api.OK}, {-100000, 2, api.OK}, {50000, 3, api.OK},
	} {
		for _, s := range []api.BenchSpecimen{one(), with()} {
			l, e := bench.Along(s, x.step, x.count)
			if x.want != api.OK {
				refused(t, "Along", l, e, x.want)
			} else if len(l) != x.count || e != api.OK {
				t.Errorf("Along by %d: %d matrices, error %d", x.step, len(l), e)
			}
		}
	}
	// A flaw leaves the places that there are.
	l, e := bench.Along(with(pore(-99990, 400, 1)), 5, 4)
	refused(t, "Along", l, e, api.ErrRange)
	l, e = bench.Along(with(pore(-99990, 400, 1)), 5, 3)
	expect(t, "Along", len(l), e, 3, api.OK)
}

// Each position has its errors ahead of those of the next one.
func TestAlongTellsTheFirstPosition(t *testing.T) {
	l, e := bench.Along(loud(64, 32), 100000, 3)
	refused(t, "Along too large at first", l, e, api.ErrLarge)
	l, e = bench.Along(loud(64, 32), 100000, 21)
	refused(t, "Along too often", l, e, api.ErrRange)
	far := loud(64, 32)
	far.Flaws[0].From.X = 50000
	l, e = bench.Along(far, 50000, 2)
	refused(t, "Along too large at last", l, e, api.ErrLarge)
	l, e = bench.Along(far, 50000, 4)
	refused(t, "Along too large ahead of too far", l, e, api.ErrLarge)
	far.Flaws = append(far.Flaws, pore(-50001, 400, 0))
	l, e = bench.Along(far, 50000, 4)
	refused(t, "Along too far at the same position", l, e, api.ErrRange)
}

func TestChangesRefuseWrongSpecimens(t *testing.T) {
	for want, s := range wrongSpecimens() {
		for _, n := range []int{0, huge, -huge - 1} {
			x, e := bench.Without(s, n)
			refused(t, "Without", x, e, want)
			x, e = bench.Moved(s, n)
			refused(t, "Moved", x, e, want)
			l, e := bench.Along(s, n, 1)
			refused(t, "Along", l, e, want)
			l, e = bench.Along(s, 0, n)
			refused(t, "Along", l, e, want)
		}
	}
}

// R3

func TestResultsHaveTheirOwnMemory(t *testing.T) {
	s := two()
	before := copied(s)
	spoil := func(x api.BenchSpecimen) {
		x.Array.Elements[0].X += 1000
		x.Pulse[0] += 50
		for n := range x.Flaws {
			x.Flaws[n].Amplitude += 500
		}
		x.Flaws = append(x.Flaws[:0], pore(1, 1, 1))
	}
	spoil(must(bench.Without(s, 0)))
	spoil(must(bench.Without(s, 1)))
	spoil(must(bench.Moved(s, 0)))
	spoil(must(bench.Moved(s, 5)))
	expectAlike(t, "what was changed", s, before)

	m := must(bench.MatrixOf(s))
	quiet := slices.Clone(m.Buffer)
	noisy := must(bench.Noisy(m, 1, 0))
	noisy.Buffer[0] = 99
	expectAlike(t, "what noise was added to", m.Buffer, quiet)
	l := must(bench.Along(s, 0, 3))
	l[0].Buffer[0] = 99
	l[1].Buffer = append(l[1].Buffer, 98)
	expectAlike(t, "the other matrices", l[2].Buffer, quiet)
	expectAlike(t, "the next matrix", l[1].Buffer[:len(quiet)], quiet)
	must(bench.MatrixOf(s)).Buffer[0] = 97
	expectAlike(t, "the matrix again", must(bench.MatrixOf(s)).Buffer, quiet)
	expectAlike(t, "what was scanned", s, before)
}
