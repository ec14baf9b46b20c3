package trace

import (
	"slices"

	"couplant/api"
	"couplant/check"
)

// Analytic returns the analytic samples of a trace.
func Analytic(t api.Trace) ([api.AnalyticEnd]complex64, api.Errno) {
	var analytic [api.AnalyticEnd]complex64
	if e := traceError(t); e != api.OK {
		return analytic, e
	}
	// A difference of 0 and -0 may be -0.
	t = plain(t)
	for k := range analytic {
		analytic[k] = complex(t[k]-t[k+2], t[k+1]-t[k+3])
	}
	return analytic, api.OK
}

// Envelope returns the squares of the analytic samples of a trace.
func Envelope(t api.Trace) ([api.AnalyticEnd]int, api.Errno) {
	var squares [api.AnalyticEnd]int
	analytic, e := Analytic(t)
	if e != api.OK {
		return squares, e
	}
	for k, sample := range analytic {
		squares[k] = squareOf(sample)
	}
	return squares, api.OK
}

// squareOf returns the square of an analytic sample; it may be greater than
// the whole numbers that a sample holds.
func squareOf(sample complex64) int {
	x, y := int(real(sample)), int(imag(sample))
	return x*x + y*y
}

// PeakIn returns where in a gate the square is greatest, and this square.
func PeakIn(t api.Trace, g api.TraceGate) (api.TracePeak, api.Errno) {
	squares, e := Envelope(t)
	if e = check.First(e, gateError(g)); e != api.OK {
		return api.TracePeak{}, e
	}
	peak := api.TracePeak{At: g.From, Square: squares[g.From]}
	for at := g.From; at <= g.To; at++ {
		if squares[at] > peak.Square {
			peak = api.TracePeak{At: at, Square: squares[at]}
		}
	}
	return peak, api.OK
}

// FirstAbove returns where in a gate the square is first at least so much.
func FirstAbove(t api.Trace, g api.TraceGate, square int) (int, api.Errno) {
	squares, e := Envelope(t)
	e = check.First(e, gateError(g), check.Unless(square >= 0, api.ErrRange))
	if e != api.OK {
		return 0, e
	}
	n := slices.IndexFunc(squares[g.From:g.To+1], func(s int) bool { return s >= square })
	if n < 0 {
		return 0, api.ErrNone
	}
	return g.From + n, api.OK
}
