package trace_test

import (
	"fmt"
	"testing"

	"couplant/api"
	"couplant/trace"
)

// P3.4

func TestAdded(t *testing.T) {
	for _, x := range []struct{ a, b, want api.Trace }{
		{spike(3, 5), spike(3, 7), spike(3, 12)},
		{spike(3, 5), spike(3, -5), api.Trace{}},
		{spike(63, 2046), spike(63, 1), spike(63, 2047)},
		{filled(-2046), filled(-1), filled(-2047)},
		{filled(2047), filled(-2047), api.Trace{}},
		{filled(minusZero()), filled(minusZero()), api.Trace{}},
		{filled(minusZero()), api.Trace{}, api.Trace{}},
	} {
		r, e := trace.Added(x.a, x.b)
		expect(t, "Added", r, e, x.want, api.OK)
	}
}

func TestAddedRefuses(t *testing.T) {
	for i, w := range wrongTraces() {
		other := wrongTraces()[1-i].trace
		r, e := trace.Added(w.trace, other)
		expect(t, "Added of two wrong traces", r, e, api.Trace{}, w.want)
		r, e = trace.Added(filled(2047), w.trace)
		expect(t, "Added of a wrong trace", r, e, api.Trace{}, w.want)
	}
	for _, x := range [][2]api.Trace{
		{spike(0, 2047), spike(0, 1)},
		{spike(63, -2047), spike(63, -1)},
		{filled(2047), filled(2047)},
	} {
		r, e := trace.Added(x[0], x[1])
		expect(t, "Added that is large", r, e, api.Trace{}, api.ErrLarge)
	}
}

func TestShifted(t *testing.T) {
	for _, x := range []struct {
		t    api.Trace
		by   int
		want api.Trace
	}{
		{spike(60, 5), 3, spike(63, 5)},
		{spike(60, 5), 4, api.Trace{}},
		{spike(3, 5), -3, spike(0, 5)},
		{spike(3, 5), -4, api.Trace{}},
		{filled(-7), 0, filled(-7)},
		{filled(-7), 64, api.Trace{}},
		{filled(-7), -64, api.Trace{}},
		{filled(-7), 63, spike(63, -7)},
		{filled(-7), -63, spike(0, -7)},
		{filled(minusZero()), 0, api.Trace{}},
		{filled(minusZero()), 5, api.Trace{}},
	} {
		r, e := trace.Shifted(x.t, x.by)
		expect(t, "Shifted", r, e, x.want, api.OK)
	}
}

func TestShiftedIsAsDefined(t *testing.T) {
	var n numbers = 6
	for by := -64; by <= 64; by++ {
		x := n.trace(2047)
		var want api.Trace
		for k := range want {
			if k-by >= 0 && k-by < 64 {
				want[k] = x[k-by]
			}
		}
		r, e := trace.Shifted(x, by)
		expect(t, "Shifted", r, e, want, api.OK)
	}
}

func TestShiftedRefuses(t *testing.T) {
	for _, w := range wrongTraces() {
		r, e := trace.Shifted(w.trace, 65)
		expect(t, "Shifted of a wrong trace", r, e, api.Trace{}, w.want)
	}
	for _, by := range []int{65, -65, huge, -huge - 1} {
		r, e := trace.Shifted(spike(3, 5), by)
		expect(t, "Shifted too far", r, e, api.Trace{}, api.ErrRange)
	}
}

func TestGained(t *testing.T) {
	for _, x := range []struct {
		t    api.Trace
		gain api.Frac
		want api.Trace
		cut  int
	}{
		{spike(0, 1500), api.Frac{Num: 3, Den: 2}, spike(0, 2047), 1},
		{spike(63, -1500), api.Frac{Num: 3, Den: 2}, spike(63, -2047), 1},
		{spike(0, -3), api.Frac{Num: 1, Den: 2}, spike(0, -1), 0},
		{spike(0, 3), api.Frac{Num: 1, Den: 2}, spike(0, 2), 0},
		{spike(0, -1), api.Frac{Num: 1, Den: 2}, api.Trace{}, 0},
		{spike(0, -1), api.Frac{Num: 1, Den: 1000}, api.Trace{}, 0},
		{filled(2047), api.Frac{Num: 0, Den: 1}, api.Trace{}, 0},
		{filled(-2047), api.Frac{Num: 0, Den: 1}, api.Trace{}, 0},
		{filled(-2047), api.Frac{Num: 1, Den: 1}, filled(-2047), 0},
		{filled(2047), api.Frac{Num: 1000, Den: 1}, filled(2047), 64},
		{filled(-3), api.Frac{Num: 1000, Den: 1}, filled(-2047), 64},
		{filled(minusZero()), api.Frac{Num: 1000, Den: 1}, api.Trace{}, 0},
		// What is cut is told behind the rounding: 2047.5, -2047.5, 2047.33.
		{spike(9, 1365), api.Frac{Num: 3, Den: 2}, spike(9, 2047), 1},
		{spike(9, -1365), api.Frac{Num: 3, Den: 2}, spike(9, -2047), 0},
		{spike(9, 1535), api.Frac{Num: 4, Den: 3}, spike(9, 2047), 0},
		{spike(9, -1024), api.Frac{Num: 2, Den: 1}, spike(9, -2047), 1},
	} {
		r, cut, e := trace.Gained(x.t, x.gain)
		expect(t, "Gained", r, e, x.want, api.OK)
		expectAlike(t, "the samples that were cut", cut, x.cut)
	}
}

func TestGainedIsAsDefined(t *testing.T) {
	var n numbers = 7
	for range 300 {
		gain := api.Frac{Num: n.from(0, 1000), Den: n.from(1, 1000)}
		for divisor := gain.Den; divisor > 1; divisor-- {
			if gain.Num%divisor == 0 && gain.Den%divisor == 0 {
				gain = api.Frac{Num: gain.Num / divisor, Den: gain.Den / divisor}
			}
		}
		x := n.trace(2047)
		var want api.Trace
		cut := 0
		for k := range x {
			sample := nearest(int(x[k])*gain.Num, gain.Den)
			if size(sample) > 2047 {
				cut++
				sample = sample / size(sample) * 2047
			}
			want[k] = float32(sample)
		}
		r, c, e := trace.Gained(x, gain)
		expect(t, fmt.Sprint("Gained by ", gain), r, e, want, api.OK)
		expectAlike(t, "the samples that were cut", c, cut)
	}
}

func TestGainedRefuses(t *testing.T) {
	for _, w := range wrongTraces() {
		r, cut, e := trace.Gained(w.trace, api.Frac{Num: 2, Den: 4})
		expect(t, "Gained of a wrong trace", r, e, api.Trace{}, w.want)
		expectAlike(t, "the samples that were cut", cut, 0)
	}
	for _, x := range []struct {
		gain api.Frac
		want api.Errno
	}{
		{api.Frac{Num: 2, Den: 4}, api.ErrForm},
		{api.Frac{Num: 0, Den: 2}, api.ErrForm},
		{api.Frac{Num: 0, Den: 0}, api.ErrForm},
		{api.Frac{Num: 1, Den: 0}, api.ErrForm},
		{api.Frac{Num: 1, Den: -1}, api.ErrForm},
		{api.Frac{Num: -2, Den: 4}, api.ErrForm},
		{api.Frac{Num: 2002, Den: 2}, api.ErrForm},
		{api.Frac{Num: -huge - 1, Den: 2}, api.ErrForm},
		{api.Frac{Num: -huge - 1, Den: -huge - 1}, api.ErrForm},
		{api.Frac{Num: -1, Den: 2}, api.ErrRange},
		{api.Frac{Num: 1001, Den: 1}, api.ErrRange},
		{api.Frac{Num: 1, Den: 1001}, api.ErrRange},
		{api.Frac{Num: 1000, Den: 1001}, api.ErrRange},
		{api.Frac{Num: huge, Den: 1}, api.ErrRange},
		{api.Frac{Num: 1, Den: huge}, api.ErrRange},
		{api.Frac{Num: -huge - 1, Den: 1}, api.ErrRange},
	} {
		r, cut, e := trace.Gained(filled(2047), x.gain)
		expect(t, fmt.Sprint("Gained by ", x.gain), r, e, api.Trace{}, x.want)
		expectAlike(t, "the samples that were cut", cut, 0)
	}
}

func TestLagOf(t *testing.T) {
	ends := spike(0, 1)
	ends[63] = 1
	for _, x := range []struct {
		a, b api.Trace
		most int
		want int
	}{
		{spike(10, 100), spike(13, 50), 5, 3},
		{spike(10, 100), spike(13, 50), 3, 3},
		{spike(10, 100), spike(13, 50), 2, 0},
		{spike(13, 100), spike(10, 50), 5, -3},
		{spike(13, 100), spike(10, 50), 3, -3},
		{spike(13, 100), spike(10, 50), 2, 0},
		{spike(10, 100), spike(13, -50), 5, 0},
		{spike(10, -100), spike(10, 100), 5, -1},
		{spike(10, -100), spike(10, 100), 0, 0},
		{spike(0, 2047), spike(32, 2047), 32, 32},
		{spike(63, -2047), spike(31, -2047), 32, -32},
		{api.Trace{}, filled(5), 32, 0},
		{filled(5), api.Trace{}, 32, 0},
		{filled(minusZero()), filled(minusZero()), 32, 0},
		{filled(5), filled(5), 32, 0},
		{filled(5), filled(-5), 32, -32},
		{ends, spike(32, 1), 32, -31},
		{ends, spike(31, 1), 32, 31},
		{ends, spike(32, 1), 30, 0},
		{spike(20, 1), spike(18, 1), 32, -2},
		// Two lags of the same sum: that of the least size, or the one below 0.
		{spike(20, 1), added(spike(17, 1), spike(22, 1)), 32, 2},
		{spike(20, 1), added(spike(18, 1), spike(23, 1)), 32, -2},
		{spike(20, 1), added(spike(18, 1), spike(22, 1)), 32, -2},
		{spike(20, 1), added(spike(18, 1), spike(22, 2)), 32, 2},
	} {
		s, e := trace.LagOf(x.a, x.b, x.most)
		expect(t, "LagOf", s, e, x.want, api.OK)
	}
}

func added(a, b api.Trace) api.Trace {
	return must(trace.Added(a, b))
}

// Sums of products do not lose their last digits.
func TestLagOfIsExact(t *testing.T) {
	a, b := filled(2047), filled(2047)
	b[0], b[63] = 2046, 2045
	a[0], a[63] = 0, 2047
	want := lagOf(a, b, 32)
	s, e := trace.LagOf(a, b, 32)
	expect(t, "LagOf", s, e, want, api.OK)
	x := spike(0, 2047)
	x[1], x[40], x[41] = 2047, 2047, 2046
	y := spike(1, 2047)
	y[2], y[41], y[40] = 2046, 2047, 1
	s, e = trace.LagOf(x, y, 32)
	expect(t, "LagOf", s, e, lagOf(x, y, 32), api.OK)
}

// lagOf returns the lag by definition, from the last choice to the first one.
func lagOf(a, b api.Trace, most int) int {
	best, greatest := 0, 0
	for s := -most; s <= most; s++ {
		sum := 0
		for k := range 64 {
			if k+s >= 0 && k+s < 64 {
				sum += int(a[k]) * int(b[k+s])
			}
		}
		if s == -most || sum > greatest || sum == greatest && size(s) < size(best) {
			best, greatest = s, sum
		}
	}
	return best
}

func TestLagOfIsAsDefined(t *testing.T) {
	var n numbers = 8
	for range 500 {
		// Small samples make equal sums.
		loud := []int{1, 2, 5, 2047}[n.from(0, 3)]
		a, b, most := n.trace(loud), n.trace(loud), n.from(0, 32)
		if n.from(0, 1) == 0 {
			a, b = spike(n.from(0, 63), 1), added(spike(n.from(0, 63), 1), spike(n.from(0, 63), 1))
		}
		s, e := trace.LagOf(a, b, most)
		expect(t, "LagOf", s, e, lagOf(a, b, most), api.OK)
	}
}

func TestLagOfRefuses(t *testing.T) {
	for i, w := range wrongTraces() {
		s, e := trace.LagOf(w.trace, wrongTraces()[1-i].trace, -1)
		expect(t, "LagOf of two wrong traces", s, e, 0, w.want)
		s, e = trace.LagOf(spike(3, 1), w.trace, -1)
		expect(t, "LagOf of a wrong trace", s, e, 0, w.want)
	}
	for _, most := range []int{-1, 33, huge, -huge - 1} {
		s, e := trace.LagOf(spike(10, 100), spike(13, 50), most)
		expect(t, "LagOf of a wrong limit", s, e, 0, api.ErrRange)
	}
}
