package bench

import (
	"couplant/api"
	"couplant/check"
)

// samples are sums of the samples of echoes. On the way they may be greater
// than the whole numbers that a sample of a trace holds.
type samples [api.TraceSize]int

// add adds a pulse from a sample number on, as far as it lies in the trace.
func (x *samples) add(pulse []int, amplitude, at int) {
	for k, part := range pulse {
		if n := at + k; 0 <= n && n < len(x) {
			x[n] += amplitude * part
		}
	}
}

func (x samples) trace() api.Trace {
	var t api.Trace
	for k, sample := range x {
		t[k] = float32(sample)
	}
	return t
}

// Pulsed returns a trace with a pulse from a sample number on.
func Pulsed(pulse []int, amplitude, at int) (api.Trace, api.Errno) {
	e := check.First(
		pulseError(pulse),
		amplitudeError(amplitude),
		check.Within(at, -api.MaxTime, api.MaxTime),
	)
	if e != api.OK {
		return api.Trace{}, e
	}
	var x samples
	x.add(pulse, amplitude, at)
	return x.trace(), api.OK
}

// specimen is a specimen that is right, with the points of all its flaws. What
// is asked of its array is asked through it.
type specimen struct {
	array
	pulse  []int
	points []api.BenchPoint
}

func specimenOf(s api.BenchSpecimen) specimen {
	x := specimen{array: array{s.Array}, pulse: s.Pulse}
	for _, f := range s.Flaws {
		for p := range points(f) {
			x.points = append(x.points, p)
		}
	}
	return x
}

// ways returns how long sound takes between an element and each point.
func (s specimen) ways(m api.RayMode, element int) []int {
	var times []int
	for _, p := range s.points {
		times = append(times, s.way(m, element, p.At))
	}
	return times
}

// trace returns the trace of the echoes with these ways to the points and back.
func (s specimen) trace(out, back []int) (api.Trace, api.Errno) {
	var x samples
	for n, p := range s.points {
		x.add(s.pulse, p.Amplitude, s.sampleAt(out[n]+back[n]))
	}
	if _, e := check.Each(x[:], largeError); e != api.OK {
		return api.Trace{}, e
	}
	return x.trace(), api.OK
}

// TraceOf returns the trace of a specimen for a pair.
func TraceOf(s api.BenchSpecimen, pair [2]int) (api.Trace, api.Errno) {
	e := check.First(specimenError(s), check.Pair(pair, len(s.Array.Elements)))
	if e != api.OK {
		return api.Trace{}, e
	}
	x := specimenOf(s)
	return x.trace(x.ways(x.Out, pair[0]), x.ways(x.Back, pair[1]))
}

// MatrixOf returns the full matrix of a specimen.
func MatrixOf(s api.BenchSpecimen) (api.FullMatrix, api.Errno) {
	if e := specimenError(s); e != api.OK {
		return api.FullMatrix{}, e
	}
	return specimenOf(s).matrix()
}

func (s specimen) matrix() (api.FullMatrix, api.Errno) {
	// An element has the same ways in each of its pairs, and these take long
	// to find.
	var out, back [api.MaxElements][]int
	for n := range s.Elements {
		out[n], back[n] = s.ways(s.Out, n), s.ways(s.Back, n)
	}
	m := api.FullMatrix{Elements: len(s.Elements)}
	for pair := range s.pairs {
		t, e := s.trace(out[pair[0]], back[pair[1]])
		if e != api.OK {
			return api.FullMatrix{}, e
		}
		m.Buffer = append(m.Buffer, t[:]...)
	}
	return m, api.OK
}

// Along returns the full matrices of a scan along which the flaws stay behind.
func Along(s api.BenchSpecimen, step, count int) ([]api.FullMatrix, api.Errno) {
	e := check.First(
		specimenError(s),
		check.Within(step, -api.MaxPlace, api.MaxPlace),
		check.Within(count, 1, api.MaxBenchAlong),
	)
	if e != api.OK {
		return nil, e
	}
	var scan []api.FullMatrix
	for k := range count {
		moved, e := Moved(s, -k*step)
		if e != api.OK {
			return nil, e
		}
		m, e := MatrixOf(moved)
		if e != api.OK {
			return nil, e
		}
		scan = append(scan, m)
	}
	return scan, api.OK
}
