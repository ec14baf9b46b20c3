package trace_test

import (
	"fmt"
	"math"
	"math/big"
	"testing"

	"couplant/api"
)

// huge is the greatest number there is.
const huge = math.MaxInt

// expect compares a result and an error with the ones that are promised. As
// texts, nil and an empty list are the same, and 0 and -0 are not.
func expect[T any](t *testing.T, what string, got T, e api.Errno, want T, f api.Errno) {
	t.Helper()
	if fmt.Sprint(got) != fmt.Sprint(want) || e != f {
		t.Errorf("%s: %v, error %d; want %v, error %d", what, got, e, want, f)
	}
}

// expectAlike compares two results that are without an error.
func expectAlike[T any](t *testing.T, what string, got, want T) {
	t.Helper()
	expect(t, what, got, api.OK, want, api.OK)
}

// must returns a result that has no error.
func must[T any](result T, e api.Errno) T {
	if e != api.OK {
		panic(fmt.Sprint("error ", e))
	}
	return result
}

func minusZero() float32 {
	return float32(math.Copysign(0, -1))
}

// spike returns a trace that is 0 but for a sample.
func spike(at int, value float32) api.Trace {
	var t api.Trace
	t[at] = value
	return t
}

// filled returns a trace all of whose samples are the same one.
func filled(value float32) api.Trace {
	var t api.Trace
	for k := range t {
		t[k] = value
	}
	return t
}

// zeros returns a matrix whose samples are 0.
func zeros(elements int) api.FullMatrix {
	return api.FullMatrix{Elements: elements, Buffer: make([]float32, elements*elements*64)}
}

// with returns a matrix of zeros with one sample.
func with(elements int, pair [2]int, at int, value float32) api.FullMatrix {
	m := zeros(elements)
	m.Buffer[(pair[0]*elements+pair[1])*64+at] = value
	return m
}

// two is the matrix of the chapter's third example.
func two() api.FullMatrix {
	return with(2, [2]int{0, 1}, 5, 7)
}

// copied returns a matrix in its own memory.
func copied(m api.FullMatrix) api.FullMatrix {
	return api.FullMatrix{Elements: m.Elements, Buffer: append([]float32{}, m.Buffer...)}
}

// sampleAt returns a sample of a matrix, by definition.
func sampleAt(m api.FullMatrix, firing, receiver, at int) int {
	return int(m.Buffer[(firing*m.Elements+receiver)*64+at])
}

type wrongSample struct {
	x    float32
	want api.Errno
}

// wrongSamples returns samples that are not right, with their errors.
func wrongSamples() []wrongSample {
	return []wrongSample{
		{0.5, api.ErrWhole},
		{-2047.5, api.ErrWhole},
		{2047.5, api.ErrWhole},
		{1e-45, api.ErrWhole},
		{float32(math.NaN()), api.ErrWhole},
		{float32(math.Inf(1)), api.ErrWhole},
		{float32(math.Inf(-1)), api.ErrWhole},
		{2048, api.ErrRange},
		{-2048, api.ErrRange},
		{3e38, api.ErrRange},
		{-3e38, api.ErrRange},
	}
}

type wrongTrace struct {
	trace api.Trace
	want  api.Errno
}

// wrongTraces returns a trace for each error that CheckTrace may tell.
func wrongTraces() []wrongTrace {
	return []wrongTrace{
		{spike(0, 0.5), api.ErrWhole},
		{spike(63, 2048), api.ErrRange},
	}
}

type wrongMatrix struct {
	m    api.FullMatrix
	want api.Errno
}

// wrongMatrices returns matrices for each error that CheckMatrix may tell.
func wrongMatrices() []wrongMatrix {
	short := zeros(2)
	short.Buffer = short.Buffer[:255]
	long := zeros(2)
	long.Buffer = append(long.Buffer, 0)
	return []wrongMatrix{
		{api.FullMatrix{}, api.ErrRange},
		{zeros(17), api.ErrRange},
		{api.FullMatrix{Elements: 1}, api.ErrShape},
		{short, api.ErrShape},
		{long, api.ErrShape},
		{with(2, [2]int{1, 1}, 63, 0.5), api.ErrWhole},
		{with(2, [2]int{0, 0}, 0, 2048), api.ErrRange},
	}
}

// wrongSamplings returns samplings that are not right.
func wrongSamplings() []api.Sampling {
	return []api.Sampling{
		{First: -1, Step: 400},
		{First: 1000000000001, Step: 400},
		{First: huge, Step: 400},
		{First: -huge - 1, Step: 400},
		{First: 1000, Step: 0},
		{First: 1000, Step: -1},
		{First: 1000, Step: 100000001},
		{First: 1000, Step: huge},
		{First: 1000, Step: -huge - 1},
		{},
	}
}

type wrongGate struct {
	gate api.TraceGate
	want api.Errno
}

// wrongGates returns gates that are not right, with their errors.
func wrongGates() []wrongGate {
	return []wrongGate{
		{api.TraceGate{From: -1, To: 60}, api.ErrRange},
		{api.TraceGate{From: 61, To: 60}, api.ErrRange},
		{api.TraceGate{From: 0, To: 61}, api.ErrRange},
		{api.TraceGate{From: 5, To: -1}, api.ErrRange},
		{api.TraceGate{From: huge, To: 0}, api.ErrRange},
		{api.TraceGate{From: 0, To: huge}, api.ErrRange},
		{api.TraceGate{From: -huge - 1, To: -huge - 1}, api.ErrRange},
		{api.TraceGate{From: 3, To: 2}, api.ErrOrder},
		{api.TraceGate{From: 60, To: 0}, api.ErrOrder},
	}
}

// numbers makes the same numbers in each run of the tests.
type numbers uint64

// from returns a number from least to most.
func (n *numbers) from(least, most int) int {
	*n = *n*6364136223846793005 + 1442695040888963407
	return least + int(uint64(*n>>33)%uint64(most-least+1))
}

// trace returns a trace whose samples are at most so much in size.
func (n *numbers) trace(most int) api.Trace {
	var t api.Trace
	for k := range t {
		t[k] = float32(n.from(-most, most))
	}
	return t
}

// matrix returns a matrix whose samples are at most so much in size.
func (n *numbers) matrix(elements, most int) api.FullMatrix {
	m := api.FullMatrix{Elements: elements}
	for range elements * elements {
		t := n.trace(most)
		m.Buffer = append(m.Buffer, t[:]...)
	}
	return m
}

// nearest returns a fraction, rounded to the nearest number, halves up.
func nearest(num, den int) int {
	r := new(big.Rat).Add(big.NewRat(int64(num), int64(den)), big.NewRat(1, 2))
	return int(new(big.Int).Div(r.Num(), r.Denom()).Int64())
}

// size returns how far a number is from 0.
func size(n int) int {
	return max(n, -n)
}
