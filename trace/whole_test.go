package trace_test

import (
	"strings"
	"testing"

	"couplant/api"
	"couplant/trace"
)

// P3.8

func TestTurnedRound(t *testing.T) {
	var n numbers = 15
	for range 50 {
		m := n.matrix(n.from(1, 5), n.from(0, 2047))
		turned := must(trace.Transposed(m))
		expectAlike(t, "Transposed of Transposed", must(trace.Transposed(turned)), m)
		greatest := 0
		for f := range m.Elements {
			for r := range m.Elements {
				for k := range 64 {
					greatest = max(greatest, sampleAt(m, f, r, k)-sampleAt(m, r, f, k))
				}
				pair := [2]int{f, r}
				x := must(trace.TraceOf(m, pair))
				expectAlike(t, "TraceOf Transposed", must(trace.TraceOf(turned, [2]int{r, f})), x)
				expectAlike(t, "With its own trace", must(trace.With(m, pair, x)), m)
			}
		}
		for _, noise := range []int{0, greatest / 2, max(greatest-1, 0), greatest} {
			l := must(trace.Unlike(m, noise))
			expectAlike(t, "Unlike of Transposed", must(trace.Unlike(turned, noise)), l)
			if (len(l) > 0) != (noise < greatest) {
				t.Fatalf("Unlike by %d, where %d is the greatest: %v", noise, greatest, l)
			}
		}
	}
}

// P3.9

func TestAnalyticSamplesOfSums(t *testing.T) {
	var n numbers = 16
	for range 100 {
		a, b := n.trace(1023), n.trace(1023)
		x, y := must(trace.Analytic(a)), must(trace.Analytic(b))
		for k := range x {
			x[k] += y[k]
		}
		expectAlike(t, "Analytic of a sum", must(trace.Analytic(added(a, b))), x)
	}
}

func TestAnalyticSamplesOfWaves(t *testing.T) {
	var n numbers = 17
	for range 100 {
		x := n.trace(2047)
		for k := range 62 {
			x[k+2] = -x[k]
		}
		a, l := must(trace.Analytic(x)), must(trace.Envelope(x))
		for k := range 60 {
			if a[k+1] != -1i*a[k] || l[k+1] != l[k] {
				t.Fatalf("%v: %v behind %v", x, a[k+1], a[k])
			}
		}
	}
}

func TestAnalyticSamplesAreShifted(t *testing.T) {
	var n numbers = 18
	for s := -64; s <= 64; s++ {
		x := n.trace(2047)
		a, b := must(trace.Analytic(x)), must(trace.Analytic(must(trace.Shifted(x, s))))
		for k := range a {
			if at := k + s; 0 <= at && at < 61 && a[k] != b[at] {
				t.Fatalf("shifted by %d: %v at %d, %v at %d", s, a[k], k, b[at], at)
			}
		}
	}
}

// P3.10

func TestLagsOfShiftedTraces(t *testing.T) {
	var n numbers = 19
	for s := -32; s <= 32; s++ {
		for _, loud := range []int{1, 2047} {
			x := n.trace(loud)
			for k := range x {
				if k+s < 0 || k+s > 63 {
					x[k] = 0
				}
			}
			shifted := must(trace.Shifted(x, s))
			expectAlike(t, "LagOf", must(trace.LagOf(x, shifted, 32)), s)
			expectAlike(t, "LagOf", must(trace.LagOf(x, shifted, size(s))), s)
		}
	}
}

// P3.11

func TestParseFrameUndoesFormatFrame(t *testing.T) {
	var n numbers = 20
	for range 100 {
		f := n.frame()
		expectAlike(t, "ParseFrame", must(trace.ParseFrame(must(trace.FormatFrame(f)))), f)
	}
	f := api.TraceFrame{Position: -1000000000, Matrix: n.matrix(16, 2047)}
	expectAlike(t, "ParseFrame", must(trace.ParseFrame(must(trace.FormatFrame(f)))), f)
}

func TestFramesCutAtAnyByte(t *testing.T) {
	var n numbers = 21
	var frames []api.TraceFrame
	var ends []int
	var s strings.Builder
	for range 4 {
		f := n.frame()
		frames = append(frames, f)
		s.WriteString(must(trace.FormatFrame(f)))
		ends = append(ends, s.Len())
	}
	for end := range s.Len() + 1 {
		count, bytes := 0, 0
		for n, e := range ends {
			if e <= end {
				count, bytes = n+1, e
			}
		}
		l, n, e := trace.Frames(s.String()[:end])
		if e != api.OK || n != bytes || len(l) != count {
			t.Fatalf("cut at %d: %d frames of %d bytes, error %d", end, len(l), n, e)
		}
		if end == bytes || end == bytes+1 {
			expectAlike(t, "Frames", l, frames[:count])
		}
	}
}

func TestNearestOfTimeOf(t *testing.T) {
	var n numbers = 22
	for range 100 {
		s := api.Sampling{First: n.from(0, 1<<31) * 450, Step: n.from(1, 100000000)}
		for k := range 64 {
			expectAlike(t, "Nearest of TimeOf", must(trace.Nearest(s, must(trace.TimeOf(s, k)))), k)
		}
	}
}

// P2: a full matrix goes through the bytes of a frame unchanged, and so does
// what is told of it.
func TestMatricesThroughFrames(t *testing.T) {
	var n numbers = 23
	for range 20 {
		f := n.frame()
		for _, m := range []api.FullMatrix{f.Matrix, must(trace.Transposed(f.Matrix))} {
			s := must(trace.FormatFrame(api.TraceFrame{Position: f.Position, Matrix: m}))
			g := must(trace.ParseFrame(s))
			expectAlike(t, "the matrix", g.Matrix, m)
			expectAlike(t, "Unlike", must(trace.Unlike(g.Matrix, 100)), must(trace.Unlike(m, 100)))
		}
	}
}
