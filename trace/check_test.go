package trace_test

import (
	"testing"

	"couplant/api"
	"couplant/trace"
)

// P3.1

func TestCheckTraceAccepts(t *testing.T) {
	for _, x := range []api.Trace{
		{}, filled(2047), filled(-2047), filled(minusZero()), spike(63, -2047),
	} {
		n, e := trace.CheckTrace(x)
		expect(t, "CheckTrace", n, e, 0, api.OK)
	}
}

func TestCheckTraceTellsTheFirstSample(t *testing.T) {
	for _, w := range wrongSamples() {
		for _, at := range []int{0, 9, 63} {
			x := spike(at, w.x)
			n, e := trace.CheckTrace(x)
			expect(t, "CheckTrace", n, e, at, w.want)
			// What stands behind it does not matter, what stands ahead does.
			for k := at + 1; k < 64; k++ {
				x[k] = 0.25
			}
			n, e = trace.CheckTrace(x)
			expect(t, "CheckTrace with others behind", n, e, at, w.want)
			if at == 63 {
				x[62] = -9999
				n, e = trace.CheckTrace(x)
				expect(t, "CheckTrace with another ahead", n, e, 62, api.ErrRange)
			}
		}
	}
}

func TestCheckMatrixAccepts(t *testing.T) {
	full := zeros(3)
	for k := range full.Buffer {
		full.Buffer[k] = -2047
	}
	for _, m := range []api.FullMatrix{two(), zeros(1), zeros(16), full, with(1, [2]int{}, 3, minusZero())} {
		n, e := trace.CheckMatrix(m)
		expect(t, "CheckMatrix", n, e, 0, api.OK)
	}
}

func TestCheckMatrixTellsElementsFirst(t *testing.T) {
	for _, elements := range []int{0, -1, 17, huge, -huge - 1, 1 << 32, 1 << 29} {
		for _, buffer := range [][]float32{nil, make([]float32, 64), {0.5}, make([]float32, 17*17*64)} {
			n, e := trace.CheckMatrix(api.FullMatrix{Elements: elements, Buffer: buffer})
			expect(t, "CheckMatrix of wrong elements", n, e, 0, api.ErrRange)
		}
	}
}

func TestCheckMatrixTellsTheShapeThen(t *testing.T) {
	for _, x := range []struct{ elements, samples int }{
		{1, 0}, {1, 63}, {1, 65}, {2, 255}, {2, 257}, {2, 128}, {16, 16383}, {16, 16385}, {3, 64},
	} {
		m := api.FullMatrix{Elements: x.elements, Buffer: make([]float32, x.samples)}
		n, e := trace.CheckMatrix(m)
		expect(t, "CheckMatrix of a wrong shape", n, e, 0, api.ErrShape)
		for k := range m.Buffer {
			m.Buffer[k] = 0.5
		}
		n, e = trace.CheckMatrix(m)
		expect(t, "CheckMatrix of a wrong shape and samples", n, e, 0, api.ErrShape)
	}
}

func TestCheckMatrixTellsTheFirstSample(t *testing.T) {
	for _, w := range wrongSamples() {
		for _, at := range []int{0, 200, 255} {
			m := two()
			m.Buffer[at] = w.x
			n, e := trace.CheckMatrix(m)
			expect(t, "CheckMatrix", n, e, at, w.want)
			for k := at + 1; k < 256; k++ {
				m.Buffer[k] = -2048
			}
			n, e = trace.CheckMatrix(m)
			expect(t, "CheckMatrix with others behind", n, e, at, w.want)
		}
	}
}
