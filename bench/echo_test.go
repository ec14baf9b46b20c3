package bench_test

import (
	"testing"

	"couplant/api"
	"couplant/bench"
	"couplant/ray"
)

// P4.2

func pointsAlong(amplitude, tip int, places ...api.Spot) []api.BenchPoint {
	var l []api.BenchPoint
	for k, p := range places {
		l = append(l, api.BenchPoint{At: p, Amplitude: amplitude})
		if k == 0 || k == len(places)-1 {
			l[k].Amplitude = tip
		}
	}
	return l
}

func TestPointsOf(t *testing.T) {
	to := func(x, z, pieces int) api.BenchFlaw {
		return plane(at, api.Spot{X: x, Z: z}, pieces, 5, 2)
	}
	for _, x := range []struct {
		f    api.BenchFlaw
		want []api.BenchPoint
	}{
		{pore(-7, 400, 10), []api.BenchPoint{{At: api.Spot{X: -7, Z: 400}, Amplitude: 10}}},
		{api.BenchFlaw{}, []api.BenchPoint{{}}},
		{to(30, 400, 3), pointsAlong(5, 2, at, api.Spot{X: 10, Z: 400}, api.Spot{X: 20, Z: 400}, api.Spot{X: 30, Z: 400})},
		// Halves go up, also of what falls.
		{to(30, 400, 4), pointsAlong(5, 2, at, api.Spot{X: 8, Z: 400}, api.Spot{X: 15, Z: 400}, api.Spot{X: 23, Z: 400}, api.Spot{X: 30, Z: 400})},
		{to(-30, 400, 4), pointsAlong(5, 2, at, api.Spot{X: -7, Z: 400}, api.Spot{X: -15, Z: 400}, api.Spot{X: -22, Z: 400}, api.Spot{X: -30, Z: 400})},
		{to(0, 395, 2), pointsAlong(5, 2, at, api.Spot{Z: 398}, api.Spot{Z: 395})},
		{to(0, -5, 2), pointsAlong(5, 2, at, api.Spot{Z: 198}, api.Spot{Z: -5})},
		{to(3, 397, 1), pointsAlong(5, 2, at, api.Spot{X: 3, Z: 397})},
		// More pieces than it is long.
		{to(1, 400, 3), pointsAlong(5, 2, at, at, api.Spot{X: 1, Z: 400}, api.Spot{X: 1, Z: 400})},
	} {
		l, e := bench.PointsOf(x.f)
		expect(t, "PointsOf", l, e, x.want, api.OK)
	}
	var n numbers = 1
	for range 500 {
		f := n.flaw(3000)
		expectAlike(t, "PointsOf", must(bench.PointsOf(f)), pointsOf(f))
	}
}

func TestPointsOfRefuses(t *testing.T) {
	far := level()
	far.To.X = 100001
	for _, x := range []struct {
		f    api.BenchFlaw
		want api.Errno
	}{
		{api.BenchFlaw{Kind: 2}, api.ErrKind},
		{api.BenchFlaw{Kind: -huge - 1}, api.ErrKind},
		{pore(0, 0, 1001), api.ErrRange},
		{plane(at, api.Spot{}, huge, 0, 0), api.ErrRange},
		{plane(at, api.Spot{}, 0, 0, 0), api.ErrRange},
		{far, api.ErrRange},
		{api.BenchFlaw{Pieces: 3}, api.ErrForm},
		{plane(at, at, 1, 1, 1), api.ErrZero},
	} {
		l, e := bench.PointsOf(x.f)
		refused(t, "PointsOf", l, e, x.want)
	}
}

func TestEchoesOfTheExample(t *testing.T) {
	a := one().Array
	expectAlike(t, "EchoAt", must(bench.EchoAt(a, at, [2]int{})), 3999980)
	expectAlike(t, "EchoRange", must(bench.EchoRange(a, at, [2]int{})), api.Range{Lo: 3999962, Hi: 4000000})
	expectAlike(t, "SampleOf", must(bench.SampleOf(a, at, [2]int{})), 2)
}

// Samples may lie ahead of a trace, or behind it, and halves go up.
func TestSampleOfIsRounded(t *testing.T) {
	for _, x := range []struct{ first, step, want int }{
		{4050000, 50000, -1},
		{3999980, 50000, 0},
		{3999979, 2, 1},
		{3999981, 2, 0},
		{3999983, 2, -1},
		{3999982, 3, -1},
		{3999981, 3, 0},
		{0, 1, 3999980},
		{1000000000000, 1, 3999980 - 1000000000000},
		{1000000000000, 100000000, -10000},
		{3899980, 1000, 100},
	} {
		a := one().Array
		a.Times = api.Sampling{First: x.first, Step: x.step}
		expectAlike(t, "SampleOf", must(bench.SampleOf(a, at, [2]int{})), x.want)
	}
}

// The firing element's way is Out, the receiving one's Back.
func TestEchoesOfManyArrays(t *testing.T) {
	var n numbers = 2
	for range 300 {
		a := n.array()
		p := n.place(a.Out.Thick)
		for _, pair := range pairsOf(a) {
			expectAlike(t, "EchoAt", must(bench.EchoAt(a, p, pair)), echoOf(a, p, pair))
			expectAlike(t, "SampleOf", must(bench.SampleOf(a, p, pair)), sampleOf(a, p, pair))
			out := must(ray.LeastTime(a.Out, a.Elements[pair[0]], p))
			back := must(ray.LeastTime(a.Back, a.Elements[pair[1]], p))
			want := api.Range{Lo: out.Lo + back.Lo, Hi: out.Hi + back.Hi}
			expectAlike(t, "EchoRange", must(bench.EchoRange(a, p, pair)), want)
		}
	}
}

func TestEchoesAtTheLimits(t *testing.T) {
	a := one().Array
	a.Elements = []api.Spot{{X: -100000, Z: -100000}, {X: 100000, Z: -1}}
	a.Out = api.RayMode{Wedge: 500, Metal: 500, Skips: 4, Thick: 20000}
	a.Back = a.Out
	for _, p := range []api.Spot{{X: 100000, Z: 1}, {X: -100000, Z: 19999}} {
		for _, pair := range pairsOf(a) {
			expectAlike(t, "EchoAt", must(bench.EchoAt(a, p, pair)), echoOf(a, p, pair))
		}
	}
}

// expectEcho expects the same error of all that is asked of an echo.
func expectEcho(t *testing.T, a api.BenchArray, p api.Spot, pair [2]int, want api.Errno) {
	t.Helper()
	n, e := bench.EchoAt(a, p, pair)
	refused(t, "EchoAt", n, e, want)
	r, e := bench.EchoRange(a, p, pair)
	refused(t, "EchoRange", r, e, want)
	n, e = bench.SampleOf(a, p, pair)
	refused(t, "SampleOf", n, e, want)
}

func TestEchoesRefuse(t *testing.T) {
	for want, a := range wrongArrays() {
		expectEcho(t, a, at, [2]int{}, want)
		expectEcho(t, a, api.Spot{Z: huge}, [2]int{-1, -1}, want)
	}
	for _, x := range wrongPlaces() {
		expectEcho(t, two().Array, x.p, [2]int{0, 1}, x.want)
		expectEcho(t, two().Array, x.p, [2]int{0, 2}, x.want)
		l, e := bench.Seen(two(), x.p)
		refused(t, "Seen", l, e, x.want)
	}
	for _, pair := range wrongPairs() {
		expectEcho(t, two().Array, at, pair, api.ErrMissing)
	}
	for want, s := range wrongSpecimens() {
		l, e := bench.Seen(s, at)
		refused(t, "Seen", l, e, want)
		l, e = bench.Seen(s, api.Spot{X: huge})
		refused(t, "Seen", l, e, want)
	}
}

// The pulse of the example's place begins at the sample 2 with First 3900000.
func TestSeenAsksForTheWholePulse(t *testing.T) {
	for _, x := range []struct {
		first, samples int
		isSeen         bool
	}{
		{3900000, 2, true},
		{4000000, 1, true},
		{4000000, 16, true},
		{4050000, 1, false},
		{4050000, 16, false},
		{3999980 - 63*50000, 1, true},
		{3999980 - 63*50000, 2, false},
		{3999980 - 62*50000, 2, true},
		{3999980 - 48*50000, 16, true},
		{3999980 - 49*50000, 16, false},
		{3999980 - 64*50000, 1, false},
	} {
		s := with()
		s.Array.Times.First, s.Pulse = x.first, make([]int, x.samples)
		want := [][2]int{{0, 0}}
		if !x.isSeen {
			want = nil
		}
		expectAlike(t, "Seen", must(bench.Seen(s, at)), want)
	}
}

func TestSeenOfManySpecimens(t *testing.T) {
	var n numbers = 3
	seen, all := 0, 0
	for range 300 {
		s := n.specimen()
		p := n.place(s.Array.Out.Thick)
		var want [][2]int
		for _, pair := range pairsOf(s.Array) {
			all++
			first := sampleOf(s.Array, p, pair)
			if first >= 0 && first+len(s.Pulse)-1 <= 63 {
				want = append(want, pair)
				seen++
			}
		}
		expectAlike(t, "Seen", must(bench.Seen(s, p)), want)
	}
	if seen == 0 || seen == all {
		t.Errorf("%d of %d pairs see a place", seen, all)
	}
}
