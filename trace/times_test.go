package trace_test

import (
	"testing"

	"couplant/api"
	"couplant/trace"
)

// sampling is the one of the chapter's sixth example.
var sampling = api.Sampling{First: 1000, Step: 400}

// latest is the sampling with the greatest numbers.
var latest = api.Sampling{First: 1000000000000, Step: 100000000}

// P3.6

func TestCheckSampling(t *testing.T) {
	for _, s := range []api.Sampling{sampling, latest, {First: 0, Step: 1}} {
		if e := trace.CheckSampling(s); e != api.OK {
			t.Errorf("CheckSampling of %v: error %d", s, e)
		}
	}
	for _, s := range wrongSamplings() {
		if e := trace.CheckSampling(s); e != api.ErrRange {
			t.Errorf("CheckSampling of %v: error %d", s, e)
		}
	}
}

func TestTimeOf(t *testing.T) {
	for _, x := range []struct {
		s            api.Sampling
		sample, want int
	}{
		{sampling, 0, 1000},
		{sampling, 1, 1400},
		{sampling, 63, 26200},
		{api.Sampling{First: 0, Step: 1}, 63, 63},
		// Results may be greater than times of arguments.
		{latest, 63, 1006300000000},
	} {
		n, e := trace.TimeOf(x.s, x.sample)
		expect(t, "TimeOf", n, e, x.want, api.OK)
	}
	for _, sample := range []int{-1, 64, huge, -huge - 1} {
		n, e := trace.TimeOf(sampling, sample)
		expect(t, "TimeOf a wrong sample", n, e, 0, api.ErrRange)
	}
	for _, s := range wrongSamplings() {
		n, e := trace.TimeOf(s, 5)
		expect(t, "TimeOf a wrong sampling", n, e, 0, api.ErrRange)
	}
}

func TestNearest(t *testing.T) {
	odd := api.Sampling{First: 10, Step: 5}
	for _, x := range []struct {
		s          api.Sampling
		time, want int
		e          api.Errno
	}{
		{sampling, 1199, 0, api.OK},
		{sampling, 1200, 1, api.OK},
		{sampling, 800, 0, api.OK},
		{sampling, 799, 0, api.ErrNone},
		{sampling, 1000, 0, api.OK},
		{sampling, 26200, 63, api.OK},
		{sampling, 26000, 63, api.OK},
		{sampling, 25999, 62, api.OK},
		{sampling, 26399, 63, api.OK},
		{sampling, 26400, 0, api.ErrNone},
		{sampling, -1000000000000, 0, api.ErrNone},
		{sampling, 1000000000000, 0, api.ErrNone},
		{odd, 8, 0, api.OK},
		{odd, 7, 0, api.ErrNone},
		{odd, 12, 0, api.OK},
		{odd, 13, 1, api.OK},
		{api.Sampling{First: 0, Step: 1}, 0, 0, api.OK},
		{api.Sampling{First: 0, Step: 1}, -1, 0, api.ErrNone},
		{api.Sampling{First: 0, Step: 3}, -1, 0, api.OK},
		{api.Sampling{First: 0, Step: 2}, -1, 0, api.OK},
		{api.Sampling{First: 0, Step: 2}, -2, 0, api.ErrNone},
		{latest, 1000000000000, 0, api.OK},
		{latest, 1000000000000 - 50000000, 0, api.OK},
		{latest, 1000000000000 - 50000001, 0, api.ErrNone},
	} {
		n, e := trace.Nearest(x.s, x.time)
		expect(t, "Nearest", n, e, x.want, x.e)
	}
}

func TestNearestIsAsDefined(t *testing.T) {
	var n numbers = 11
	for range 2000 {
		s := api.Sampling{First: n.from(0, 500), Step: n.from(1, 20)}
		time := n.from(-100, 2000)
		want, e := nearest(time-s.First, s.Step), api.OK
		if want < 0 || want > 63 {
			want, e = 0, api.ErrNone
		}
		k, f := trace.Nearest(s, time)
		expect(t, "Nearest", k, f, want, e)
	}
}

func TestNearestRefuses(t *testing.T) {
	for _, s := range wrongSamplings() {
		n, e := trace.Nearest(s, s.First)
		expect(t, "Nearest of a wrong sampling", n, e, 0, api.ErrRange)
	}
	for _, time := range []int{1000000000001, -1000000000001, huge, -huge - 1} {
		n, e := trace.Nearest(latest, time)
		expect(t, "Nearest of a wrong time", n, e, 0, api.ErrRange)
	}
}

func TestGateOf(t *testing.T) {
	for _, x := range []struct {
		s     api.Sampling
		times api.Range
		want  api.TraceGate
		e     api.Errno
	}{
		{sampling, api.Range{Lo: 1200, Hi: 2200}, api.TraceGate{From: 1, To: 3}, api.OK},
		{sampling, api.Range{Lo: 1400, Hi: 2199}, api.TraceGate{From: 1, To: 2}, api.OK},
		{sampling, api.Range{Lo: 1401, Hi: 2600}, api.TraceGate{From: 2, To: 4}, api.OK},
		{sampling, api.Range{Lo: 1400, Hi: 1400}, api.TraceGate{From: 1, To: 1}, api.OK},
		{sampling, api.Range{Lo: 1401, Hi: 1799}, api.TraceGate{}, api.ErrNone},
		{sampling, api.Range{Lo: 0, Hi: 1000}, api.TraceGate{From: 0, To: 0}, api.OK},
		{sampling, api.Range{Lo: 0, Hi: 999}, api.TraceGate{}, api.ErrNone},
		{sampling, api.Range{Lo: -1000, Hi: -1}, api.TraceGate{}, api.ErrNone},
		{sampling, api.Range{Lo: 601, Hi: 999}, api.TraceGate{}, api.ErrNone},
		{sampling, api.Range{Lo: 25000, Hi: 25000}, api.TraceGate{From: 60, To: 60}, api.OK},
		{sampling, api.Range{Lo: 25001, Hi: 26200}, api.TraceGate{}, api.ErrNone},
		{sampling, api.Range{Lo: 24600, Hi: 1000000000000}, api.TraceGate{From: 59, To: 60}, api.OK},
		{sampling, api.Range{Lo: -1000000000000, Hi: 1000000000000}, api.TraceGate{From: 0, To: 60}, api.OK},
		{sampling, api.Range{Lo: 1000000000000, Hi: 1000000000000}, api.TraceGate{}, api.ErrNone},
		{latest, api.Range{Lo: 0, Hi: 1000000000000}, api.TraceGate{From: 0, To: 0}, api.OK},
	} {
		g, e := trace.GateOf(x.s, x.times)
		expect(t, "GateOf", g, e, x.want, x.e)
	}
}

func TestGateOfIsAsDefined(t *testing.T) {
	var n numbers = 12
	for range 2000 {
		s := api.Sampling{First: n.from(0, 500), Step: n.from(1, 20)}
		times := api.Range{Lo: n.from(-100, 2000)}
		times.Hi = n.from(times.Lo, times.Lo+n.from(0, 600))
		var in []int
		for k := range 61 {
			if time := s.First + k*s.Step; times.Lo <= time && time <= times.Hi {
				in = append(in, k)
			}
		}
		want, e := api.TraceGate{}, api.ErrNone
		if len(in) > 0 {
			want, e = api.TraceGate{From: in[0], To: in[len(in)-1]}, api.OK
		}
		g, f := trace.GateOf(s, times)
		expect(t, "GateOf", g, f, want, e)
	}
}

func TestGateOfRefuses(t *testing.T) {
	for _, s := range wrongSamplings() {
		for _, times := range []api.Range{{Lo: 5, Hi: 1}, {Lo: 1, Hi: 5000}} {
			g, e := trace.GateOf(s, times)
			expect(t, "GateOf a wrong sampling", g, e, api.TraceGate{}, api.ErrRange)
		}
	}
	for _, x := range []struct {
		times api.Range
		want  api.Errno
	}{
		{api.Range{Lo: 1000000000001, Hi: 5}, api.ErrRange},
		{api.Range{Lo: -1000000000001, Hi: 5}, api.ErrRange},
		{api.Range{Lo: 5, Hi: 1000000000001}, api.ErrRange},
		{api.Range{Lo: 5, Hi: -1000000000001}, api.ErrRange},
		{api.Range{Lo: huge, Hi: -huge - 1}, api.ErrRange},
		{api.Range{Lo: -huge - 1, Hi: huge}, api.ErrRange},
		{api.Range{Lo: 5, Hi: 4}, api.ErrOrder},
		{api.Range{Lo: 1400, Hi: 1399}, api.ErrOrder},
		{api.Range{Lo: 1000000000000, Hi: -1000000000000}, api.ErrOrder},
	} {
		g, e := trace.GateOf(sampling, x.times)
		expect(t, "GateOf", g, e, api.TraceGate{}, x.want)
	}
}
