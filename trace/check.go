package trace

import (
	"couplant/api"
	"couplant/check"
	"couplant/whole"
)

// lastAnalytic is the number of the last analytic sample.
const lastAnalytic = api.AnalyticEnd - 1

// CheckTrace returns the error of a trace, and the number of the sample that
// has it.
func CheckTrace(t api.Trace) (int, api.Errno) {
	return check.Each(t[:], sampleError)
}

// CheckMatrix returns the error of a full matrix, and the number of the sample
// in its buffer that has it.
func CheckMatrix(m api.FullMatrix) (int, api.Errno) {
	e := check.First(
		check.Within(m.Elements, 1, api.MaxElements),
		check.Unless(len(m.Buffer) == samplesOf(m.Elements), api.ErrShape),
	)
	if e != api.OK {
		return 0, e
	}
	return check.Each(m.Buffer, sampleError)
}

// CheckSampling returns the error of a sampling.
func CheckSampling(s api.Sampling) api.Errno {
	return check.First(
		check.Within(s.First, 0, api.MaxTime),
		check.Within(s.Step, 1, api.MaxStep),
	)
}

// samplesOf returns how many samples a matrix of some elements has.
func samplesOf(elements int) int {
	return elements * elements * api.TraceSize
}

func sampleError(_ int, x float32) api.Errno {
	return check.First(
		check.Unless(whole.IsWhole(float64(x)), api.ErrWhole),
		check.Unless(-api.MaxSample <= x && x <= api.MaxSample, api.ErrRange),
	)
}

func traceError(t api.Trace) api.Errno {
	_, e := CheckTrace(t)
	return e
}

func matrixError(m api.FullMatrix) api.Errno {
	_, e := CheckMatrix(m)
	return e
}

func gateError(g api.TraceGate) api.Errno {
	return check.Range(api.Range{Lo: g.From, Hi: g.To}, 0, lastAnalytic)
}

func gainError(gain api.Frac) api.Errno {
	return check.Ratio(gain, api.MaxGain)
}

func positionError(position int) api.Errno {
	return check.Within(position, -api.MaxPart, api.MaxPart)
}
