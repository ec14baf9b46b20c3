package trace_test

import (
	"testing"

	"couplant/api"
	"couplant/trace"
)

// whole is the gate of all analytic samples.
var whole = api.TraceGate{To: 60}

// wave is the trace of the chapter's second example.
func wave() api.Trace {
	var t api.Trace
	for k := range t {
		t[k] = []float32{1, 2, -1, -2}[k%4]
	}
	return t
}

// squares returns the squares of the analytic samples, by definition.
func squares(t api.Trace) [61]int {
	var l [61]int
	for k := range l {
		x, y := int(t[k])-int(t[k+2]), int(t[k+1])-int(t[k+3])
		l[k] = x*x + y*y
	}
	return l
}

// P3.5

func TestAnalytic(t *testing.T) {
	var want [61]complex64
	want[10], want[9], want[8], want[7] = 100, 100i, -100, -100i
	a, e := trace.Analytic(spike(10, 100))
	expect(t, "Analytic", a, e, want, api.OK)

	a, e = trace.Analytic(wave())
	expectAlike(t, "Analytic of the second example", a[0], 2+4i)
	expectAlike(t, "Analytic of the second example", a[1], 4-2i)
	expect(t, "the last sample", a[60], e, 2+4i, api.OK)

	a, e = trace.Analytic(spike(63, 5))
	expect(t, "Analytic of the last sample", a, e, [61]complex64{60: -5i}, api.OK)
	a, e = trace.Analytic(spike(0, 5))
	expect(t, "Analytic of the first sample", a, e, [61]complex64{0: 5}, api.OK)

	far := spike(0, 2047)
	far[2], far[1], far[3] = -2047, -2047, 2047
	a, e = trace.Analytic(far)
	expect(t, "Analytic of the greatest samples", a[0], e, 4094-4094i, api.OK)
}

func TestAnalyticHasNoMinusZero(t *testing.T) {
	for _, x := range []api.Trace{{}, filled(minusZero()), filled(-7), spike(3, minusZero())} {
		a, e := trace.Analytic(x)
		expect(t, "Analytic", a, e, [61]complex64{}, api.OK)
	}
}

func TestAnalyticIsAsDefined(t *testing.T) {
	var n numbers = 9
	for range 100 {
		x := n.trace(2047)
		var want [61]complex64
		for k := range want {
			want[k] = complex(x[k], x[k+1]) - complex(x[k+2], x[k+3])
		}
		a, e := trace.Analytic(x)
		expect(t, "Analytic", a, e, want, api.OK)
		l, e := trace.Envelope(x)
		expect(t, "Envelope", l, e, squares(x), api.OK)
	}
}

func TestEnvelope(t *testing.T) {
	want := [61]int{7: 10000, 8: 10000, 9: 10000, 10: 10000}
	l, e := trace.Envelope(spike(10, 100))
	expect(t, "Envelope", l, e, want, api.OK)
	l, e = trace.Envelope(wave())
	for k := range want {
		want[k] = 20
	}
	expect(t, "Envelope of the second example", l, e, want, api.OK)

	far := filled(2047)
	far[2], far[3] = -2047, -2046
	l, e = trace.Envelope(far)
	expect(t, "Envelope of the greatest samples", l[0], e, 4094*4094+4093*4093, api.OK)
}

func TestAnalyticRefuses(t *testing.T) {
	for _, w := range wrongTraces() {
		a, e := trace.Analytic(w.trace)
		expect(t, "Analytic of a wrong trace", a, e, [61]complex64{}, w.want)
		l, e := trace.Envelope(w.trace)
		expect(t, "Envelope of a wrong trace", l, e, [61]int{}, w.want)
	}
}

func TestPeakIn(t *testing.T) {
	two := added(spike(10, 100), spike(30, -101))
	for _, x := range []struct {
		t    api.Trace
		gate api.TraceGate
		want api.TracePeak
	}{
		{spike(10, 100), whole, api.TracePeak{At: 7, Square: 10000}},
		{spike(10, 100), api.TraceGate{From: 9, To: 60}, api.TracePeak{At: 9, Square: 10000}},
		{spike(10, 100), api.TraceGate{From: 0, To: 6}, api.TracePeak{At: 0, Square: 0}},
		{spike(10, 100), api.TraceGate{From: 0, To: 7}, api.TracePeak{At: 7, Square: 10000}},
		{spike(10, 100), api.TraceGate{From: 11, To: 60}, api.TracePeak{At: 11, Square: 0}},
		{spike(10, 100), api.TraceGate{From: 10, To: 10}, api.TracePeak{At: 10, Square: 10000}},
		{two, whole, api.TracePeak{At: 27, Square: 10201}},
		{two, api.TraceGate{From: 8, To: 26}, api.TracePeak{At: 8, Square: 10000}},
		{two, api.TraceGate{From: 11, To: 27}, api.TracePeak{At: 27, Square: 10201}},
		{spike(63, 1), whole, api.TracePeak{At: 60, Square: 1}},
		{spike(0, 1), whole, api.TracePeak{At: 0, Square: 1}},
		{api.Trace{}, api.TraceGate{From: 60, To: 60}, api.TracePeak{At: 60}},
	} {
		p, e := trace.PeakIn(x.t, x.gate)
		expect(t, "PeakIn", p, e, x.want, api.OK)
	}
}

func TestPeakInAndFirstAboveAreAsDefined(t *testing.T) {
	var n numbers = 10
	for range 300 {
		x := n.trace([]int{1, 3, 2047}[n.from(0, 2)])
		gate := api.TraceGate{From: n.from(0, 60)}
		gate.To = n.from(gate.From, 60)
		l := squares(x)
		want := api.TracePeak{At: gate.From, Square: -1}
		for k := gate.From; k <= gate.To; k++ {
			if l[k] > want.Square {
				want = api.TracePeak{At: k, Square: l[k]}
			}
		}
		p, e := trace.PeakIn(x, gate)
		expect(t, "PeakIn", p, e, want, api.OK)

		square, first, f := n.from(0, want.Square+1), 0, api.ErrNone
		for k := gate.To; k >= gate.From; k-- {
			if l[k] >= square {
				first, f = k, api.OK
			}
		}
		at, e := trace.FirstAbove(x, gate, square)
		expect(t, "FirstAbove", at, e, first, f)
	}
}

func TestPeakInRefuses(t *testing.T) {
	for _, w := range wrongTraces() {
		p, e := trace.PeakIn(w.trace, api.TraceGate{From: -1})
		expect(t, "PeakIn of a wrong trace", p, e, api.TracePeak{}, w.want)
	}
	for _, w := range wrongGates() {
		p, e := trace.PeakIn(spike(10, 100), w.gate)
		expect(t, "PeakIn of a wrong gate", p, e, api.TracePeak{}, w.want)
	}
}

func TestFirstAbove(t *testing.T) {
	for _, x := range []struct {
		gate   api.TraceGate
		square int
		want   int
		e      api.Errno
	}{
		{api.TraceGate{From: 9, To: 60}, 10000, 9, api.OK},
		{api.TraceGate{From: 9, To: 60}, 10001, 0, api.ErrNone},
		{api.TraceGate{From: 9, To: 60}, huge, 0, api.ErrNone},
		{whole, 10000, 7, api.OK},
		{whole, 1, 7, api.OK},
		{whole, 0, 0, api.OK},
		{api.TraceGate{From: 11, To: 60}, 0, 11, api.OK},
		{api.TraceGate{From: 11, To: 60}, 1, 0, api.ErrNone},
		{api.TraceGate{From: 0, To: 6}, 1, 0, api.ErrNone},
		{api.TraceGate{From: 0, To: 7}, 1, 7, api.OK},
		{api.TraceGate{From: 10, To: 10}, 1, 10, api.OK},
	} {
		n, e := trace.FirstAbove(spike(10, 100), x.gate, x.square)
		expect(t, "FirstAbove", n, e, x.want, x.e)
	}
}

func TestFirstAboveRefuses(t *testing.T) {
	for _, w := range wrongTraces() {
		n, e := trace.FirstAbove(w.trace, api.TraceGate{From: -1}, -1)
		expect(t, "FirstAbove of a wrong trace", n, e, 0, w.want)
	}
	for _, w := range wrongGates() {
		n, e := trace.FirstAbove(spike(10, 100), w.gate, -1)
		expect(t, "FirstAbove of a wrong gate", n, e, 0, w.want)
	}
	for _, square := range []int{-1, -huge - 1} {
		n, e := trace.FirstAbove(spike(10, 100), whole, square)
		expect(t, "FirstAbove of a wrong square", n, e, 0, api.ErrRange)
	}
}
