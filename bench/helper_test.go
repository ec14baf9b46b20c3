package bench_test

import (
	"fmt"
	"math"
	"math/big"
	"testing"

	"couplant/api"
	"couplant/bench"
	"couplant/ray"
)

// huge is the greatest number there is.
const huge = math.MaxInt

// expect compares a result and an error with the ones that are promised. As
// texts, nil and an empty list are the same, and 0 and -0 are not.
func expect[T any](t *testing.T, what string, got T, e api.Errno, want T, f api.Errno) {
	t.Helper()
	if fmt.Sprint(got) != fmt.Sprint(want) || e != f {
		t.Errorf("%s: %v, error %d; want %v, error %d", what, got, e, want, f)
	}
}

// expectAlike compares two results that are without an error.
func expectAlike[T any](t *testing.T, what string, got, want T) {
	t.Helper()
	expect(t, what, got, api.OK, want, api.OK)
}

// refused expects an error, and beside it the zero value.
func refused[T any](t *testing.T, what string, got T, e, want api.Errno) {
	t.Helper()
	var zero T
	expect(t, what, got, e, zero, want)
}

// must returns a result that has no error.
func must[T any](result T, e api.Errno) T {
	if e != api.OK {
		panic(fmt.Sprint("error ", e))
	}
	return result
}

// at is the place of the chapter's examples.
var at = api.Spot{Z: 400}

// one is the specimen of the chapter's examples.
func one() api.BenchSpecimen {
	m := api.RayMode{Wedge: 2500, Metal: 5000, Thick: 1000}
	return api.BenchSpecimen{
		Array: api.BenchArray{
			Elements: []api.Spot{{Z: -300}},
			Out:      m, Back: m,
			Times: api.Sampling{First: 3900000, Step: 50000},
		},
		Pulse: []int{3, -2},
		Flaws: []api.BenchFlaw{pore(0, 400, 10)},
	}
}

func pore(x, z, amplitude int) api.BenchFlaw {
	return api.BenchFlaw{From: api.Spot{X: x, Z: z}, Amplitude: amplitude}
}

func plane(from, to api.Spot, pieces, amplitude, tip int) api.BenchFlaw {
	return api.BenchFlaw{
		Kind: api.BenchPlane, From: from, To: to,
		Pieces: pieces, Amplitude: amplitude, Tip: tip,
	}
}

// level is the plane of the chapter's third example.
func level() api.BenchFlaw {
	return plane(at, api.Spot{X: 30, Z: 400}, 3, 5, 2)
}

// with returns the specimen of the examples with other flaws.
func with(flaws ...api.BenchFlaw) api.BenchSpecimen {
	s := one()
	s.Flaws = flaws
	return s
}

// two returns a specimen of two elements and two flaws, with unlike modes.
func two() api.BenchSpecimen {
	s := with(pore(-20, 300, 7), level())
	s.Array.Elements = []api.Spot{{X: -100, Z: -300}, {X: 250, Z: -400}}
	s.Array.Back.Skips = 1
	s.Array.Times.First = 6000000
	return s
}

// loud returns a specimen with one sample of a part of a pulse times an
// amplitude, for its first element: the echoes of its second one come too late.
func loud(part, amplitude int) api.BenchSpecimen {
	s := with(pore(0, 400, amplitude))
	s.Array.Elements = []api.Spot{{Z: -300}, {Z: -9000}}
	s.Pulse = []int{part}
	return s
}

// copied returns a specimen in its own memory.
func copied(s api.BenchSpecimen) api.BenchSpecimen {
	s.Array.Elements = append([]api.Spot{}, s.Array.Elements...)
	s.Pulse = append([]int{}, s.Pulse...)
	s.Flaws = append([]api.BenchFlaw{}, s.Flaws...)
	return s
}

// numbers makes the same numbers in each run of the tests.
type numbers uint64

// from returns a number from least to most.
func (n *numbers) from(least, most int) int {
	*n = *n*6364136223846793005 + 1442695040888963407
	return least + int(uint64(*n>>33)%uint64(most-least+1))
}

func (n *numbers) mode(thick int) api.RayMode {
	return api.RayMode{Wedge: n.from(1000, 4000), Metal: n.from(2000, 8000), Skips: n.from(0, 4), Thick: thick}
}

func (n *numbers) place(thick int) api.Spot {
	return api.Spot{X: n.from(-500, 500), Z: n.from(1, thick-1)}
}

// array returns an array whose samples have the echo of some place.
func (n *numbers) array() api.BenchArray {
	thick := n.from(2, 2000)
	a := api.BenchArray{Out: n.mode(thick), Back: n.mode(thick)}
	for range n.from(1, 4) {
		a.Elements = append(a.Elements, api.Spot{X: n.from(-500, 500), Z: -n.from(1, 900)})
	}
	a.Times.Step = n.from(20000, 200000)
	middle := echoOf(a, n.place(thick), [2]int{})
	a.Times.First = max(0, middle-n.from(0, 63)*a.Times.Step)
	return a
}

func (n *numbers) flaw(thick int) api.BenchFlaw {
	f := pore(0, 0, n.from(-3, 3))
	f.From = n.place(thick)
	if n.from(0, 1) == 0 {
		return f
	}
	f = plane(f.From, n.place(thick), n.from(1, 20), f.Amplitude, n.from(-3, 3))
	if f.To == f.From {
		f.To.X++
	}
	return f
}

// specimen returns a specimen whose samples are not too large.
func (n *numbers) specimen() api.BenchSpecimen {
	s := api.BenchSpecimen{Array: n.array()}
	for range n.from(1, 16) {
		s.Pulse = append(s.Pulse, n.from(-3, 3))
	}
	for range n.from(0, 10) {
		s.Flaws = append(s.Flaws, n.flaw(s.Array.Out.Thick))
	}
	return s
}

// matrix returns a matrix whose samples are at most so much in size.
func (n *numbers) matrix(elements, most int) api.FullMatrix {
	m := api.FullMatrix{Elements: elements}
	for range elements * elements * 64 {
		m.Buffer = append(m.Buffer, float32(n.from(-most, most)))
	}
	return m
}

// nearest returns a fraction, rounded to the nearest number, halves up.
func nearest(num, den int) int {
	r := new(big.Rat).Add(big.NewRat(int64(num), int64(den)), big.NewRat(1, 2))
	return int(new(big.Int).Div(r.Num(), r.Denom()).Int64())
}

// pointsOf returns the points of a flaw, by definition.
func pointsOf(f api.BenchFlaw) []api.BenchPoint {
	if f.Kind == api.BenchPore {
		return []api.BenchPoint{{At: f.From, Amplitude: f.Amplitude}}
	}
	var l []api.BenchPoint
	for k := 0; k <= f.Pieces; k++ {
		p := api.BenchPoint{Amplitude: f.Amplitude}
		p.At.X = nearest(f.From.X*(f.Pieces-k)+f.To.X*k, f.Pieces)
		p.At.Z = nearest(f.From.Z*(f.Pieces-k)+f.To.Z*k, f.Pieces)
		l = append(l, p)
	}
	l[0].Amplitude, l[f.Pieces].Amplitude = f.Tip, f.Tip
	return l
}

// echoOf returns the echo of a place, by definition.
func echoOf(a api.BenchArray, p api.Spot, pair [2]int) int {
	out := must(ray.RoundedTime(a.Out, a.Elements[pair[0]], p))
	back := must(ray.RoundedTime(a.Back, a.Elements[pair[1]], p))
	return out + back
}

// sampleOf returns the sample number of the echo of a place, by definition.
func sampleOf(a api.BenchArray, p api.Spot, pair [2]int) int {
	return nearest(echoOf(a, p, pair)-a.Times.First, a.Times.Step)
}

// pulsed returns the trace of a pulse, by definition, sample by sample.
func pulsed(pulse []int, amplitude, first int) [64]int {
	var x [64]int
	for k := range x {
		if n := k - first; 0 <= n && n < len(pulse) {
			x[k] = amplitude * pulse[n]
		}
	}
	return x
}

// traceOf returns the trace of a specimen, by definition.
func traceOf(s api.BenchSpecimen, pair [2]int) api.Trace {
	var sum [64]int
	for _, f := range s.Flaws {
		for _, p := range pointsOf(f) {
			for k, sample := range pulsed(s.Pulse, p.Amplitude, sampleOf(s.Array, p.At, pair)) {
				sum[k] += sample
			}
		}
	}
	return traceWith(sum)
}

func traceWith(samples [64]int) api.Trace {
	var t api.Trace
	for k, sample := range samples {
		t[k] = float32(sample)
	}
	return t
}

// pairsOf returns all pairs of an array, by firings, then by receivers.
func pairsOf(a api.BenchArray) [][2]int {
	var l [][2]int
	for f := range a.Elements {
		for r := range a.Elements {
			l = append(l, [2]int{f, r})
		}
	}
	return l
}

// fault is something that makes an argument wrong, and what is told then.
type fault[T any] struct {
	spoil func(x *T)
	n     int
	want  api.Errno
}

// eachFault has every fault judged alone, and together with all that are told
// behind it.
func eachFault[T any](fresh func() T, faults []fault[T], judge func(x T, n int, want api.Errno)) {
	for k, f := range faults {
		x := fresh()
		f.spoil(&x)
		judge(x, f.n, f.want)
		x = fresh()
		for j := len(faults) - 1; j >= k; j-- {
			faults[j].spoil(&x)
		}
		judge(x, f.n, f.want)
	}
}

// wrongArrays returns an array for each error that CheckArray may tell.
func wrongArrays() map[api.Errno]api.BenchArray {
	kind, unit, step := one().Array, one().Array, one().Array
	kind.Elements = []api.Spot{{}}
	unit.Back.Thick = 999
	step.Times.Step = 0
	large := one().Array
	large.Elements = make([]api.Spot, 17)
	return map[api.Errno]api.BenchArray{
		api.ErrShape: {}, api.ErrLarge: large, api.ErrKind: kind, api.ErrUnit: unit, api.ErrRange: step,
	}
}

// wrongSpecimens returns a specimen for each error that CheckSpecimen may tell.
func wrongSpecimens() map[api.Errno]api.BenchSpecimen {
	m := map[api.Errno]api.BenchSpecimen{}
	for e, a := range wrongArrays() {
		m[e] = api.BenchSpecimen{Array: a, Pulse: []int{1}}
	}
	m[api.ErrShape] = api.BenchSpecimen{Array: one().Array}
	m[api.ErrLarge] = with(make([]api.BenchFlaw, 11)...)
	m[api.ErrRange] = with(pore(0, 400, 1001))
	m[api.ErrForm] = with(api.BenchFlaw{From: at, Tip: 1})
	m[api.ErrZero] = with(plane(at, at, 1, 1, 1))
	m[api.ErrBreak] = with(pore(0, 1000, 1))
	return m
}

type wrongPlace struct {
	p    api.Spot
	want api.Errno
}

// wrongPlaces returns places that are not those of an array with the thickness
// 1000.
func wrongPlaces() []wrongPlace {
	return []wrongPlace{
		{api.Spot{X: 100001, Z: 400}, api.ErrRange},
		{api.Spot{X: -100001, Z: 400}, api.ErrRange},
		{api.Spot{X: -huge - 1, Z: 0}, api.ErrRange},
		{api.Spot{Z: 100001}, api.ErrRange},
		{api.Spot{Z: -100001}, api.ErrRange},
		{api.Spot{Z: huge}, api.ErrRange},
		{api.Spot{Z: 100000}, api.ErrBreak},
		{api.Spot{Z: -100000}, api.ErrBreak},
		{api.Spot{Z: 1000}, api.ErrBreak},
		{api.Spot{Z: 0}, api.ErrBreak},
	}
}

// wrongPairs returns pairs that two elements have not.
func wrongPairs() [][2]int {
	return [][2]int{{0, 2}, {2, 0}, {-1, 0}, {0, -1}, {huge, 1}, {1, -huge - 1}}
}

func checkSpecimen(t *testing.T, s api.BenchSpecimen) {
	t.Helper()
	n, e := bench.CheckSpecimen(s)
	expect(t, "CheckSpecimen", n, e, 0, api.OK)
}
