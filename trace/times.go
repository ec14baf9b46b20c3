package trace

import (
	"couplant/api"
	"couplant/check"
	"couplant/whole"
)

// lastSample is the number of the last sample of a trace.
const lastSample = api.TraceSize - 1

// TimeOf returns the time of a sample.
func TimeOf(s api.Sampling, sample int) (int, api.Errno) {
	if e := check.First(CheckSampling(s), check.Within(sample, 0, lastSample)); e != api.OK {
		return 0, e
	}
	return s.First + sample*s.Step, api.OK
}

// Nearest returns the sample whose time is nearest.
func Nearest(s api.Sampling, time int) (int, api.Errno) {
	if e := check.First(CheckSampling(s), check.Within(time, -api.MaxTime, api.MaxTime)); e != api.OK {
		return 0, e
	}
	sample := whole.Nearest(time-s.First, s.Step)
	if sample < 0 || sample > lastSample {
		return 0, api.ErrNone
	}
	return sample, api.OK
}

// GateOf returns the gate of the analytic samples whose times lie in a range.
func GateOf(s api.Sampling, times api.Range) (api.TraceGate, api.Errno) {
	e := check.First(
		CheckSampling(s),
		check.Range(times, -api.MaxTime, api.MaxTime),
	)
	if e != api.OK {
		return api.TraceGate{}, e
	}
	g := api.TraceGate{
		From: max(0, whole.DivideUp(times.Lo-s.First, s.Step)),
		To:   min(lastAnalytic, whole.DivideDown(times.Hi-s.First, s.Step)),
	}
	if g.From > g.To {
		return api.TraceGate{}, api.ErrNone
	}
	return g, api.OK
}
