package trace_test

import (
	"slices"
	"testing"

	"couplant/api"
	"couplant/trace"
)

// refuses calls what takes a matrix with wrong ones.
func refuses(t *testing.T, what string, errorOf func(m api.FullMatrix) api.Errno) {
	t.Helper()
	for _, w := range wrongMatrices() {
		if e := errorOf(w.m); e != w.want {
			t.Errorf("%s of a wrong matrix: error %d; want error %d", what, e, w.want)
		}
	}
}

// wrongPairs returns pairs that a matrix of two elements has not.
func wrongPairs() [][2]int {
	return [][2]int{
		{0, 2}, {2, 0}, {-1, 0}, {0, -1}, {2, 2}, {huge, 0}, {0, huge}, {-huge - 1, 1}, {1, -huge - 1},
	}
}

// P3.2

func TestTraceOf(t *testing.T) {
	x, e := trace.TraceOf(two(), [2]int{0, 1})
	expect(t, "TraceOf", x, e, spike(5, 7), api.OK)
	x, e = trace.TraceOf(two(), [2]int{1, 0})
	expect(t, "TraceOf, turned round", x, e, api.Trace{}, api.OK)
	x, e = trace.TraceOf(with(1, [2]int{}, 3, minusZero()), [2]int{})
	expect(t, "TraceOf -0", x, e, api.Trace{}, api.OK)
	var n numbers = 1
	for _, elements := range []int{1, 2, 3, 16} {
		m := n.matrix(elements, 2047)
		for f := range elements {
			for r := range elements {
				var want api.Trace
				for k := range want {
					want[k] = float32(sampleAt(m, f, r, k))
				}
				x, e := trace.TraceOf(m, [2]int{f, r})
				expect(t, "TraceOf", x, e, want, api.OK)
			}
		}
	}
}

func TestTraceOfRefuses(t *testing.T) {
	refuses(t, "TraceOf", func(m api.FullMatrix) api.Errno {
		x, e := trace.TraceOf(m, [2]int{99, -5})
		expect(t, "TraceOf", x, e, api.Trace{}, e)
		return e
	})
	for _, pair := range wrongPairs() {
		x, e := trace.TraceOf(two(), pair)
		expect(t, "TraceOf a wrong pair", x, e, api.Trace{}, api.ErrMissing)
	}
}

func TestWith(t *testing.T) {
	m := two()
	r, e := trace.With(m, [2]int{1, 0}, spike(63, -2047))
	want := two()
	want.Buffer[2*64+63] = -2047
	expect(t, "With", r, e, want, api.OK)
	r, e = trace.With(m, [2]int{0, 1}, spike(4, 3))
	expect(t, "With in its place", r, e, with(2, [2]int{0, 1}, 4, 3), api.OK)
	expectAlike(t, "the argument", m, two())

	last := with(16, [2]int{15, 15}, 63, 9)
	r, e = trace.With(zeros(16), [2]int{15, 15}, spike(63, 9))
	expect(t, "With at the end", r, e, last, api.OK)
}

func TestWithHasNoMinusZero(t *testing.T) {
	r, e := trace.With(with(2, [2]int{1, 1}, 3, minusZero()), [2]int{0, 1}, filled(minusZero()))
	expect(t, "With -0", r, e, zeros(2), api.OK)
}

func TestWithRefuses(t *testing.T) {
	var none api.FullMatrix
	refuses(t, "With", func(m api.FullMatrix) api.Errno {
		r, e := trace.With(m, [2]int{99, -5}, spike(0, 0.5))
		expect(t, "With", r, e, none, e)
		return e
	})
	for _, pair := range wrongPairs() {
		r, e := trace.With(two(), pair, spike(0, 0.5))
		expect(t, "With of a wrong pair", r, e, none, api.ErrMissing)
	}
	for _, w := range wrongTraces() {
		r, e := trace.With(two(), [2]int{0, 1}, w.trace)
		expect(t, "With of a wrong trace", r, e, none, w.want)
	}
}

func TestTransposed(t *testing.T) {
	r, e := trace.Transposed(two())
	expect(t, "Transposed", r, e, with(2, [2]int{1, 0}, 5, 7), api.OK)
	r, e = trace.Transposed(with(3, [2]int{1, 1}, 5, minusZero()))
	expect(t, "Transposed -0", r, e, zeros(3), api.OK)
	var n numbers = 2
	for _, elements := range []int{1, 3, 16} {
		m := n.matrix(elements, 2047)
		r, e := trace.Transposed(m)
		want := zeros(elements)
		for f := range elements {
			for r := range elements {
				for k := range 64 {
					want.Buffer[(f*elements+r)*64+k] = float32(sampleAt(m, r, f, k))
				}
			}
		}
		expect(t, "Transposed", r, e, want, api.OK)
	}
	refuses(t, "Transposed", func(m api.FullMatrix) api.Errno {
		r, e := trace.Transposed(m)
		expect(t, "Transposed", r, e, api.FullMatrix{}, e)
		return e
	})
}

func TestUnlike(t *testing.T) {
	far := with(3, [2]int{0, 2}, 63, 2047)
	far.Buffer[2*3*64+63] = -2047
	many := with(3, [2]int{2, 1}, 0, -1)
	many.Buffer[64], many.Buffer[128+5] = 1, 1
	for _, x := range []struct {
		m     api.FullMatrix
		noise int
		want  [][2]int
	}{
		{two(), 6, [][2]int{{0, 1}}},
		{two(), 7, nil},
		{two(), 0, [][2]int{{0, 1}}},
		{with(2, [2]int{1, 0}, 5, 7), 6, [][2]int{{0, 1}}},
		{with(2, [2]int{1, 0}, 5, -7), 6, [][2]int{{0, 1}}},
		{with(2, [2]int{1, 0}, 5, -7), 7, nil},
		{with(2, [2]int{1, 1}, 5, 7), 0, nil},
		{with(1, [2]int{}, 5, 7), 0, nil},
		{far, 4093, [][2]int{{0, 2}}},
		{far, 4094, nil},
		{many, 0, [][2]int{{0, 1}, {0, 2}, {1, 2}}},
		{many, 1, nil},
		{with(2, [2]int{0, 1}, 9, minusZero()), 0, nil},
	} {
		l, e := trace.Unlike(x.m, x.noise)
		expect(t, "Unlike", l, e, x.want, api.OK)
	}
}

func TestUnlikeIsAsDefined(t *testing.T) {
	var n numbers = 3
	for range 100 {
		m := n.matrix(n.from(1, 6), 20)
		noise := n.from(30, 40)
		var want [][2]int
		for f := range m.Elements {
			for r := f + 1; r < m.Elements; r++ {
				greatest := 0
				for k := range 64 {
					greatest = max(greatest, size(sampleAt(m, f, r, k)-sampleAt(m, r, f, k)))
				}
				if greatest > noise {
					want = append(want, [2]int{f, r})
				}
			}
		}
		l, e := trace.Unlike(m, noise)
		expect(t, "Unlike", l, e, want, api.OK)
	}
}

func TestUnlikeRefuses(t *testing.T) {
	refuses(t, "Unlike", func(m api.FullMatrix) api.Errno {
		l, e := trace.Unlike(m, -1)
		expect(t, "Unlike", l, e, nil, e)
		return e
	})
	for _, noise := range []int{-1, 4095, huge, -huge - 1} {
		l, e := trace.Unlike(two(), noise)
		expect(t, "Unlike with wrong noise", l, e, nil, api.ErrRange)
	}
}

// P3.3

func TestDeadElements(t *testing.T) {
	three := with(3, [2]int{0, 1}, 63, -2047)
	for _, x := range []struct {
		m     api.FullMatrix
		level int
		want  []int
	}{
		{two(), 6, nil},
		{two(), 7, []int{0, 1}},
		{two(), 2047, []int{0, 1}},
		{with(2, [2]int{1, 1}, 0, -7), 6, []int{0}},
		{with(2, [2]int{1, 1}, 0, -7), 7, []int{0, 1}},
		{with(2, [2]int{0, 0}, 0, 1), 0, []int{1}},
		{with(1, [2]int{}, 63, 5), 4, nil},
		{with(1, [2]int{}, 63, 5), 5, []int{0}},
		{with(1, [2]int{}, 63, minusZero()), 0, []int{0}},
		{three, 2046, []int{2}},
		{three, 2047, []int{0, 1, 2}},
		{with(3, [2]int{2, 0}, 9, 3), 2, []int{1}},
		{with(16, [2]int{15, 15}, 63, 3), 2, []int{0, 1, 2, 3, 4, 5, 6, 7, 8, 9, 10, 11, 12, 13, 14}},
	} {
		l, e := trace.DeadElements(x.m, x.level)
		expect(t, "DeadElements", l, e, x.want, api.OK)
	}
}

func TestDeadElementsRefuses(t *testing.T) {
	refuses(t, "DeadElements", func(m api.FullMatrix) api.Errno {
		l, e := trace.DeadElements(m, -1)
		expect(t, "DeadElements", l, e, nil, e)
		return e
	})
	for _, level := range []int{-1, 2048, huge, -huge - 1} {
		l, e := trace.DeadElements(two(), level)
		expect(t, "DeadElements of a wrong level", l, e, nil, api.ErrRange)
	}
}

func TestSaturated(t *testing.T) {
	many := with(3, [2]int{2, 2}, 63, 2047)
	many.Buffer[64*3], many.Buffer[64*2+9], many.Buffer[64*2+8] = -2047, -2047, 2047
	many.Buffer[0] = 2046
	for _, x := range []struct {
		m    api.FullMatrix
		want [][2]int
	}{
		{two(), nil},
		{with(2, [2]int{0, 0}, 3, -2047), [][2]int{{0, 0}}},
		{with(2, [2]int{1, 0}, 63, 2047), [][2]int{{1, 0}}},
		{with(2, [2]int{1, 0}, 63, 2046), nil},
		{many, [][2]int{{0, 2}, {1, 0}, {2, 2}}},
	} {
		l, e := trace.Saturated(x.m)
		expect(t, "Saturated", l, e, x.want, api.OK)
	}
	refuses(t, "Saturated", func(m api.FullMatrix) api.Errno {
		l, e := trace.Saturated(m)
		expect(t, "Saturated", l, e, nil, e)
		return e
	})
}

func TestAveraged(t *testing.T) {
	turned := with(2, [2]int{1, 0}, 5, 7)
	mean := with(2, [2]int{0, 1}, 5, 4)
	mean.Buffer[128+5] = 4
	one := func(x float32) api.FullMatrix { return with(1, [2]int{}, 0, x) }
	for _, x := range []struct {
		l    []api.FullMatrix
		want api.FullMatrix
	}{
		{[]api.FullMatrix{two(), turned}, mean},
		{[]api.FullMatrix{two()}, two()},
		{[]api.FullMatrix{one(-3), one(0)}, one(-1)},
		{[]api.FullMatrix{one(-3), one(2)}, one(0)},
		{[]api.FullMatrix{one(3), one(0)}, one(2)},
		{[]api.FullMatrix{one(-1), one(0), one(0)}, one(0)},
		{[]api.FullMatrix{one(-2), one(0), one(0)}, one(-1)},
		{[]api.FullMatrix{one(minusZero())}, one(0)},
		{slices.Repeat([]api.FullMatrix{one(-2047)}, 32), one(-2047)},
	} {
		m, e := trace.Averaged(x.l)
		expect(t, "Averaged", m, e, x.want, api.OK)
	}
}

func TestAveragedIsAsDefined(t *testing.T) {
	var n numbers = 4
	for range 20 {
		elements := n.from(1, 3)
		var l []api.FullMatrix
		for range n.from(1, 32) {
			l = append(l, n.matrix(elements, 2047))
		}
		want := zeros(elements)
		for k := range want.Buffer {
			sum := 0
			for _, m := range l {
				sum += int(m.Buffer[k])
			}
			want.Buffer[k] = float32(nearest(sum, len(l)))
		}
		m, e := trace.Averaged(l)
		expect(t, "Averaged", m, e, want, api.OK)
	}
}

func TestAveragedRefuses(t *testing.T) {
	wrong := api.FullMatrix{}
	for _, x := range []struct {
		l    []api.FullMatrix
		want api.Errno
	}{
		{nil, api.ErrShape},
		{[]api.FullMatrix{}, api.ErrShape},
		{slices.Repeat([]api.FullMatrix{wrong}, 33), api.ErrLarge},
		{slices.Repeat([]api.FullMatrix{zeros(1)}, 33), api.ErrLarge},
		{slices.Repeat([]api.FullMatrix{wrong}, 32), api.ErrRange},
		{[]api.FullMatrix{zeros(1), zeros(2), wrong}, api.ErrClash},
		{[]api.FullMatrix{zeros(2), zeros(2), zeros(1)}, api.ErrClash},
		{[]api.FullMatrix{zeros(1), wrong, zeros(2)}, api.ErrRange},
		{[]api.FullMatrix{zeros(1), {Elements: 2}}, api.ErrShape},
		{[]api.FullMatrix{zeros(1), with(2, [2]int{}, 0, 0.5)}, api.ErrWhole},
	} {
		m, e := trace.Averaged(x.l)
		expect(t, "Averaged", m, e, api.FullMatrix{}, x.want)
	}
	refuses(t, "Averaged", func(m api.FullMatrix) api.Errno {
		_, e := trace.Averaged([]api.FullMatrix{m})
		return e
	})
}

// R3

func TestMatricesHaveTheirOwnMemory(t *testing.T) {
	var n numbers = 5
	m := n.matrix(3, 2047)
	before, x := copied(m), n.trace(2047)
	l := []api.FullMatrix{m}
	for what, r := range map[string]api.FullMatrix{
		"With":       must(trace.With(m, [2]int{1, 2}, x)),
		"Transposed": must(trace.Transposed(m)),
		"Averaged":   must(trace.Averaged(l)),
	} {
		for k := range r.Buffer {
			r.Buffer[k] = 99
		}
		expectAlike(t, what+" shares its argument", m, before)
	}
	for _, ask := range []func(){
		func() { trace.Unlike(m, 0) },
		func() { trace.DeadElements(m, 0) },
		func() { trace.Saturated(m) },
		func() { trace.FormatFrame(api.TraceFrame{Matrix: m}) },
	} {
		ask()
		expectAlike(t, "an argument that was only read", m, before)
	}
	zero := with(1, [2]int{}, 0, minusZero())
	want := copied(zero)
	trace.With(zero, [2]int{}, api.Trace{})
	trace.Transposed(zero)
	trace.TraceOf(zero, [2]int{})
	expectAlike(t, "an argument with -0", zero, want)
}
