package bench_test

import (
	"testing"

	"couplant/api"
	"couplant/bench"
	"couplant/trace"
)

// P4.3

func TestPulsed(t *testing.T) {
	for _, x := range []struct {
		pulse         []int
		amplitude, at int
		want          api.Trace
	}{
		{[]int{3, -2}, 10, 2, api.Trace{2: 30, 3: -20}},
		{[]int{3, -2}, -10, 2, api.Trace{2: -30, 3: 20}},
		{[]int{3, -2}, 10, -1, api.Trace{0: -20}},
		{[]int{3, -2}, 10, -2, api.Trace{}},
		{[]int{3, -2}, 10, 62, api.Trace{62: 30, 63: -20}},
		{[]int{3, -2}, 10, 63, api.Trace{63: 30}},
		{[]int{3, -2}, 10, 64, api.Trace{}},
		{[]int{3, -2}, 10, 1000000000000, api.Trace{}},
		{[]int{3, -2}, 10, -1000000000000, api.Trace{}},
		// No sample is -0.
		{[]int{3, -2}, 0, 5, api.Trace{}},
		{[]int{0, -2, 0}, -10, 5, api.Trace{6: 20}},
		// A sample may be greater than that of a trace.
		{[]int{100, -100}, 1000, 0, api.Trace{0: 100000, 1: -100000}},
		{[]int{99}, -1000, 63, api.Trace{63: -99000}},
		{[]int{15: 7}, 1, -15, api.Trace{0: 7}},
	} {
		l, e := bench.Pulsed(x.pulse, x.amplitude, x.at)
		expect(t, "Pulsed", l, e, x.want, api.OK)
	}
	var n numbers = 4
	for range 500 {
		var pulse []int
		for range n.from(1, 16) {
			pulse = append(pulse, n.from(-100, 100))
		}
		amplitude, first := n.from(-1000, 1000), n.from(-20, 70)
		want := traceWith(pulsed(pulse, amplitude, first))
		expectAlike(t, "Pulsed", must(bench.Pulsed(pulse, amplitude, first)), want)
	}
}

func TestPulsedRefuses(t *testing.T) {
	for _, x := range []struct {
		pulse         []int
		amplitude, at int
		want          api.Errno
	}{
		{nil, 0, 0, api.ErrShape},
		{[]int{}, 1001, huge, api.ErrShape},
		{make([]int, 17), 0, 0, api.ErrLarge},
		{[]int{500, 16: 0}, 1001, huge, api.ErrLarge},
		{[]int{101}, 0, 0, api.ErrRange},
		{[]int{1, -101}, 0, 0, api.ErrRange},
		{[]int{huge}, 0, 0, api.ErrRange},
		{[]int{1}, 1001, 0, api.ErrRange},
		{[]int{1}, -1001, 0, api.ErrRange},
		{[]int{1}, -huge - 1, 0, api.ErrRange},
		{[]int{1}, 1, 1000000000001, api.ErrRange},
		{[]int{1}, 1, -1000000000001, api.ErrRange},
		{[]int{1}, 1, huge, api.ErrRange},
		{[]int{1}, 1, -huge - 1, api.ErrRange},
	} {
		l, e := bench.Pulsed(x.pulse, x.amplitude, x.at)
		refused(t, "Pulsed", l, e, x.want)
	}
}

func TestTraceOfTheExample(t *testing.T) {
	expectAlike(t, "TraceOf", must(bench.TraceOf(one(), [2]int{})), api.Trace{2: 30, 3: -20})
	late := one()
	late.Array.Times.First = 4050000
	expectAlike(t, "TraceOf what begins too late", must(bench.TraceOf(late, [2]int{})), api.Trace{0: -20})
	expectAlike(t, "TraceOf no flaws", must(bench.TraceOf(with(), [2]int{})), api.Trace{})
	expectAlike(t, "TraceOf a silent pore", must(bench.TraceOf(with(pore(0, 400, 0)), [2]int{})), api.Trace{})
	// Each of the points of a plane sends, also where there are others.
	s := with(plane(at, api.Spot{X: 1, Z: 400}, 20, 5, 2), pore(0, 400, 100))
	s.Pulse = []int{1}
	expectAlike(t, "TraceOf a short plane", must(bench.TraceOf(s, [2]int{})), api.Trace{2: 199})
}

func TestTracesOfManySpecimens(t *testing.T) {
	var n numbers = 5
	heard := 0
	for range 200 {
		s := n.specimen()
		want := api.FullMatrix{Elements: len(s.Array.Elements)}
		for _, pair := range pairsOf(s.Array) {
			x := traceOf(s, pair)
			want.Buffer = append(want.Buffer, x[:]...)
			expectAlike(t, "TraceOf", must(bench.TraceOf(s, pair)), x)
			if x != (api.Trace{}) {
				heard++
			}
		}
		m := must(bench.MatrixOf(s))
		expectAlike(t, "MatrixOf", m, want)
		n, e := trace.CheckMatrix(m)
		expect(t, "CheckMatrix", n, e, 0, api.OK)
	}
	if heard < 500 {
		t.Errorf("%d traces have echoes", heard)
	}
}

func TestMatrixOfTheMostElementsAndPoints(t *testing.T) {
	s := one()
	s.Array.Elements, s.Flaws = nil, nil
	for k := range 16 {
		s.Array.Elements = append(s.Array.Elements, api.Spot{X: 60 * k, Z: -300 - k})
	}
	for k := range 10 {
		s.Flaws = append(s.Flaws, plane(api.Spot{X: 10 * k, Z: 300}, api.Spot{X: 500, Z: 500 + k}, 20, 1, 2))
	}
	m := must(bench.MatrixOf(s))
	for _, pair := range [][2]int{{0, 0}, {3, 11}, {15, 0}, {15, 15}} {
		expectAlike(t, "MatrixOf", must(trace.TraceOf(m, pair)), traceOf(s, pair))
	}
}

// 89 times 23 is 2047, 64 times 32 is 2048.
func TestSamplesMayNotBeTooLarge(t *testing.T) {
	for _, x := range []struct {
		part, amplitude int
		want            api.Errno
	}{
		{89, 23, api.OK}, {89, -23, api.OK}, {-89, 23, api.OK},
		{64, 32, api.ErrLarge}, {64, -32, api.ErrLarge}, {100, 1000, api.ErrLarge}, {100, -1000, api.ErrLarge},
	} {
		s := loud(x.part, x.amplitude)
		l, e := bench.TraceOf(s, [2]int{})
		m, f := bench.MatrixOf(s)
		if x.want != api.OK {
			refused(t, "TraceOf", l, e, x.want)
			refused(t, "MatrixOf", m, f, x.want)
		} else {
			expect(t, "TraceOf", l, e, api.Trace{2: float32(x.part * x.amplitude)}, api.OK)
			expect(t, "MatrixOf", must(trace.TraceOf(m, [2]int{})), f, l, api.OK)
		}
		// It is asked of the trace of the pair alone.
		for _, pair := range [][2]int{{0, 1}, {1, 0}, {1, 1}} {
			expectAlike(t, "TraceOf", must(bench.TraceOf(s, pair)), api.Trace{})
		}
	}
}

// Sums on the way may be too large.
func TestOnlySumsMayNotBeTooLarge(t *testing.T) {
	s := loud(100, 1000)
	s.Flaws = append(s.Flaws, pore(0, 400, 1000), pore(0, 400, -1000), pore(0, 400, -980))
	expectAlike(t, "TraceOf", must(bench.TraceOf(s, [2]int{})), api.Trace{2: 2000})
	s.Flaws[3].Amplitude = -979
	l, e := bench.TraceOf(s, [2]int{})
	refused(t, "TraceOf", l, e, api.ErrLarge)
	s.Flaws[3].Amplitude = -1000
	expectAlike(t, "TraceOf what is the opposite", must(bench.TraceOf(s, [2]int{})), api.Trace{})
	// What lies ahead of the trace is not asked.
	s = loud(64, 32)
	s.Array.Times.First = 4050000
	expectAlike(t, "TraceOf", must(bench.TraceOf(s, [2]int{})), api.Trace{})
}

func TestTracesRefuse(t *testing.T) {
	for want, s := range wrongSpecimens() {
		l, e := bench.TraceOf(s, [2]int{})
		refused(t, "TraceOf", l, e, want)
		l, e = bench.TraceOf(s, [2]int{-1, 0})
		refused(t, "TraceOf", l, e, want)
		m, e := bench.MatrixOf(s)
		refused(t, "MatrixOf", m, e, want)
	}
	for _, pair := range wrongPairs() {
		l, e := bench.TraceOf(two(), pair)
		refused(t, "TraceOf", l, e, api.ErrMissing)
		l, e = bench.TraceOf(loud(64, 32), pair)
		refused(t, "TraceOf", l, e, api.ErrMissing)
	}
}
