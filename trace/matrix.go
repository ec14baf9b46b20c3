package trace

import (
	"couplant/api"
	"couplant/check"
	"couplant/whole"
)

// matrix is a full matrix that is right.
type matrix api.FullMatrix

// trace returns the trace of a pair.
func (m matrix) trace(pair [2]int) api.Trace {
	begin := (pair[0]*m.Elements + pair[1]) * api.TraceSize
	return plain(api.Trace(m.Buffer[begin : begin+api.TraceSize]))
}

// traces yields all pairs in ascending order, with their traces.
func (m matrix) traces(yield func([2]int, api.Trace) bool) {
	for firing := range m.Elements {
		for receiver := range m.Elements {
			pair := [2]int{firing, receiver}
			if !yield(pair, m.trace(pair)) {
				return
			}
		}
	}
}

// changed returns a matrix with another trace of each pair.
func (m matrix) changed(traceOf func(pair [2]int, t api.Trace) api.Trace) api.FullMatrix {
	c := api.FullMatrix{Elements: m.Elements}
	for pair, t := range m.traces {
		t = traceOf(pair, t)
		c.Buffer = append(c.Buffer, t[:]...)
	}
	return c
}

// pairsWhere returns the pairs for whose traces a condition holds.
func (m matrix) pairsWhere(holds func(pair [2]int, t api.Trace) bool) [][2]int {
	var pairs [][2]int
	for pair, t := range m.traces {
		if holds(pair, t) {
			pairs = append(pairs, pair)
		}
	}
	return pairs
}

// turned returns a pair the other way round.
func turned(pair [2]int) [2]int {
	return [2]int{pair[1], pair[0]}
}

// TraceOf returns the trace of a pair.
func TraceOf(m api.FullMatrix, pair [2]int) (api.Trace, api.Errno) {
	if e := check.First(matrixError(m), check.Pair(pair, m.Elements)); e != api.OK {
		return api.Trace{}, e
	}
	return matrix(m).trace(pair), api.OK
}

// With returns a matrix with another trace of a pair.
func With(m api.FullMatrix, pair [2]int, t api.Trace) (api.FullMatrix, api.Errno) {
	e := check.First(matrixError(m), check.Pair(pair, m.Elements), traceError(t))
	if e != api.OK {
		return api.FullMatrix{}, e
	}
	return matrix(m).changed(func(p [2]int, before api.Trace) api.Trace {
		if p == pair {
			return plain(t)
		}
		return before
	}), api.OK
}

// Transposed returns a matrix with firings and receivers exchanged.
func Transposed(m api.FullMatrix) (api.FullMatrix, api.Errno) {
	if e := matrixError(m); e != api.OK {
		return api.FullMatrix{}, e
	}
	return matrix(m).changed(func(pair [2]int, _ api.Trace) api.Trace {
		return matrix(m).trace(turned(pair))
	}), api.OK
}

// Unlike returns the pairs whose trace differs by more than noise from that of
// the pair turned round.
func Unlike(m api.FullMatrix, noise int) ([][2]int, api.Errno) {
	if e := check.First(matrixError(m), check.Within(noise, 0, 2*api.MaxSample)); e != api.OK {
		return nil, e
	}
	return matrix(m).pairsWhere(func(pair [2]int, t api.Trace) bool {
		return pair[0] < pair[1] && loudest(difference(t, matrix(m).trace(turned(pair)))) > noise
	}), api.OK
}

// difference returns one trace less another one.
func difference(a, b api.Trace) api.Trace {
	for k := range a {
		a[k] -= b[k]
	}
	return a
}

// DeadElements returns the elements without a sample above a level.
func DeadElements(m api.FullMatrix, level int) ([]int, api.Errno) {
	if e := check.First(matrixError(m), check.Within(level, 0, api.MaxSample)); e != api.OK {
		return nil, e
	}
	isLoud := func(_ [2]int, t api.Trace) bool { return loudest(t) > level }
	var isAlive [api.MaxElements]bool
	for _, pair := range matrix(m).pairsWhere(isLoud) {
		isAlive[pair[0]], isAlive[pair[1]] = true, true
	}
	var dead []int
	for element := range m.Elements {
		if !isAlive[element] {
			dead = append(dead, element)
		}
	}
	return dead, api.OK
}

// Saturated returns the pairs whose trace has a sample of the greatest size.
func Saturated(m api.FullMatrix) ([][2]int, api.Errno) {
	if e := matrixError(m); e != api.OK {
		return nil, e
	}
	return matrix(m).pairsWhere(func(_ [2]int, t api.Trace) bool {
		return loudest(t) == api.MaxSample
	}), api.OK
}

// Averaged returns the matrix of the means of matrices.
func Averaged(l []api.FullMatrix) (api.FullMatrix, api.Errno) {
	if e := check.Count(len(l), api.MaxAverage); e != api.OK {
		return api.FullMatrix{}, e
	}
	_, e := check.Each(l, func(_ int, m api.FullMatrix) api.Errno {
		return check.First(
			matrixError(m),
			check.Unless(m.Elements == l[0].Elements, api.ErrClash),
		)
	})
	if e != api.OK {
		return api.FullMatrix{}, e
	}
	mean := api.FullMatrix{Elements: l[0].Elements}
	for k := range l[0].Buffer {
		sum := 0
		for _, m := range l {
			sum += int(m.Buffer[k])
		}
		mean.Buffer = append(mean.Buffer, float32(whole.Nearest(sum, len(l))))
	}
	return mean, api.OK
}
