package bench_test

import (
	"testing"

	"couplant/api"
	"couplant/bench"
	"couplant/trace"
)

// opposite returns a specimen with all amplitudes the opposite ones.
func opposite(s api.BenchSpecimen) api.BenchSpecimen {
	s = copied(s)
	for n, f := range s.Flaws {
		s.Flaws[n].Amplitude, s.Flaws[n].Tip = -f.Amplitude, -f.Tip
	}
	return s
}

// P4.7

func TestEchoesAddUp(t *testing.T) {
	var n numbers = 11
	for range 100 {
		s := n.specimen()
		all := must(bench.MatrixOf(s))
		for k, f := range s.Flaws {
			alone := copied(s)
			alone.Flaws = []api.BenchFlaw{f}
			sum := must(bench.MatrixOf(alone))
			for j, sample := range must(bench.MatrixOf(must(bench.Without(s, k)))).Buffer {
				sum.Buffer[j] += sample
			}
			expectAlike(t, "the sum", sum, all)
		}
	}
}

func TestOppositeAmplitudes(t *testing.T) {
	var n numbers = 12
	for range 100 {
		s := n.specimen()
		for _, pair := range pairsOf(s.Array) {
			x := must(bench.TraceOf(opposite(s), pair))
			for k, sample := range must(bench.TraceOf(s, pair)) {
				if x[k] != -sample {
					t.Fatalf("%v: %v at %d; %v with the opposite amplitudes", s, sample, k, x[k])
				}
			}
		}
	}
}

// P4.8, and P2: a full matrix made with one mode there and back is its own
// transposed one, also behind its way through the bytes of a frame.
func TestReciprocity(t *testing.T) {
	var n numbers = 13
	for range 100 {
		s := n.specimen()
		s.Array.Back = s.Array.Out
		m := must(bench.MatrixOf(s))
		expectAlike(t, "the transposed matrix", must(trace.Transposed(m)), m)
		for _, pair := range pairsOf(s.Array) {
			turned := must(bench.TraceOf(s, [2]int{pair[1], pair[0]}))
			expectAlike(t, "the pair the other way round", must(bench.TraceOf(s, pair)), turned)
		}
		bytes := must(trace.FormatFrame(api.TraceFrame{Position: n.from(-1000, 1000), Matrix: m}))
		f := must(trace.ParseFrame(bytes))
		expectAlike(t, "the matrix of a frame", f.Matrix, m)
		expectAlike(t, "the transposed matrix of a frame", must(trace.Transposed(f.Matrix)), m)
	}
}

// With unlike modes the ways there and back are not exchanged.
func TestUnlikeModesAreNotReciprocal(t *testing.T) {
	m := must(bench.MatrixOf(two()))
	if l := must(trace.Unlike(m, 0)); len(l) != 1 {
		t.Errorf("the pairs %v are unlike", l)
	}
	s := two()
	s.Array.Out, s.Array.Back = s.Array.Back, s.Array.Out
	expectAlike(t, "the modes exchanged", must(bench.MatrixOf(s)), must(trace.Transposed(m)))
}

// P4.9

func TestTheEchoLiesInItsRange(t *testing.T) {
	var n numbers = 14
	for range 500 {
		a := n.array()
		p := n.place(a.Out.Thick)
		for _, pair := range pairsOf(a) {
			echo, r := must(bench.EchoAt(a, p, pair)), must(bench.EchoRange(a, p, pair))
			if echo < r.Lo || echo > r.Hi {
				t.Fatalf("%v at %v: %d is not in %v", a, p, echo, r)
			}
		}
	}
}

func TestATraceOfOnePore(t *testing.T) {
	var n numbers = 15
	for range 300 {
		s := n.specimen()
		p := n.place(s.Array.Out.Thick)
		f := pore(p.X, p.Z, n.from(-600, 600))
		s.Flaws = []api.BenchFlaw{f}
		for _, pair := range pairsOf(s.Array) {
			first := must(bench.SampleOf(s.Array, p, pair))
			want := must(bench.Pulsed(s.Pulse, f.Amplitude, first))
			expectAlike(t, "TraceOf", must(bench.TraceOf(s, pair)), want)
		}
	}
}

func TestAllMovedAlike(t *testing.T) {
	var n numbers = 16
	for range 100 {
		s := n.specimen()
		by := n.from(-90000, 90000)
		x := must(bench.Moved(s, by))
		for k := range x.Array.Elements {
			x.Array.Elements[k].X += by
		}
		expectAlike(t, "the matrix", must(bench.MatrixOf(x)), must(bench.MatrixOf(s)))
	}
}
