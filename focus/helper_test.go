package focus_test

import (
	"fmt"
	"math"
	"math/big"
	"slices"
	"testing"

	"couplant/api"
	"couplant/bench"
)

// huge is the greatest number there is.
const huge = math.MaxInt

// expect compares a result and an error with the ones that are promised. As
// texts, nil and an empty list are the same, and 0 and -0 are not.
func expect[T any](t *testing.T, what string, got T, e api.Errno, want T, f api.Errno) {
	t.Helper()
	if fmt.Sprint(got) != fmt.Sprint(want) || e != f {
		t.Errorf("%s: %v, error %d; want %v, error %d", what, got, e, want, f)
	}
}

// expectAlike compares two results that are without an error.
func expectAlike[T any](t *testing.T, what string, got, want T) {
	t.Helper()
	expect(t, what, got, api.OK, want, api.OK)
}

// refused expects an error, and beside it the zero value.
func refused[T any](t *testing.T, what string, got T, e, want api.Errno) {
	t.Helper()
	var zero T
	expect(t, what, got, e, zero, want)
}

// must returns a result that has no error.
func must[T any](result T, e api.Errno) T {
	if e != api.OK {
		panic(fmt.Sprint("error ", e))
	}
	return result
}

// found is two results that come together.
type found[A, B any] struct {
	a A
	b B
}

// together returns both results of a function as one.
func together[A, B any](a A, b B, e api.Errno) (found[A, B], api.Errno) {
	return found[A, B]{a, b}, e
}

// one is the task of the chapter's examples.
func one() api.FocusTask {
	m := api.RayMode{Wedge: 2500, Metal: 5000, Thick: 1000}
	t := api.FocusTask{
		Array: api.BenchArray{
			Elements: []api.Spot{{Z: -300}},
			Out:      m, Back: m,
			Times: api.Sampling{First: 3900000, Step: 50000},
		},
		Matrix: api.FullMatrix{Elements: 1, Buffer: make([]float32, 64)},
		Grid:   api.FocusGrid{From: api.Spot{Z: 400}, Columns: 1, Rows: 1, Step: 50},
	}
	t.Matrix.Buffer[2], t.Matrix.Buffer[3] = 30, -20
	return t
}

// two is a task of two elements and six cells, with unlike modes and unlike
// samples. Not all cells have a number of each pair.
func two() api.FocusTask {
	t := one()
	t.Array.Elements = []api.Spot{{X: -100, Z: -300}, {X: 250, Z: -400}}
	t.Array.Back.Skips = 1
	t.Array.Times = api.Sampling{First: 6500000, Step: 20000}
	t.Matrix = api.FullMatrix{Elements: 2}
	for k := range 4 * 64 {
		t.Matrix.Buffer = append(t.Matrix.Buffer, float32(k*k%199-99))
	}
	t.Grid = api.FocusGrid{From: api.Spot{X: -100, Z: 300}, Columns: 3, Rows: 2, Step: 100}
	return t
}

// copied returns a task in its own memory.
func copied(t api.FocusTask) api.FocusTask {
	t.Array.Elements = slices.Clone(t.Array.Elements)
	t.Matrix.Buffer = slices.Clone(t.Matrix.Buffer)
	return t
}

// flat returns a grid of so many columns and rows.
func flat(columns, rows int) api.FocusGrid {
	return api.FocusGrid{Columns: columns, Rows: rows, Step: 1}
}

// numbers makes the same numbers in each run of the tests.
type numbers uint64

// from returns a number from least to most.
func (n *numbers) from(least, most int) int {
	*n = *n*6364136223846793005 + 1442695040888963407
	return least + int(uint64(*n>>33)%uint64(most-least+1))
}

func (n *numbers) mode(thick int) api.RayMode {
	return api.RayMode{Wedge: n.from(1000, 4000), Metal: n.from(2000, 8000), Skips: n.from(0, 4), Thick: thick}
}

// grid returns a grid that lies in a plate.
func (n *numbers) grid(thick int) api.FocusGrid {
	g := api.FocusGrid{From: api.Spot{X: n.from(-500, 500), Z: n.from(1, thick-1)}}
	g.Columns, g.Rows, g.Step = n.from(1, 5), n.from(1, 5), n.from(1, 40)
	for g.From.Z+(g.Rows-1)*g.Step >= thick {
		g.Rows--
	}
	return g
}

// list returns numbers from least to most.
func (n *numbers) list(count, least, most int) []int {
	var l []int
	for range count {
		l = append(l, n.from(least, most))
	}
	return l
}

// mixed returns the numbers below count, in some order.
func (n *numbers) mixed(count int) []int {
	var l []int
	for k := range count {
		l = slices.Insert(l, n.from(0, k), k)
	}
	return l
}

// some returns some of the numbers below count, ascending.
func (n *numbers) some(count int) []int {
	var l []int
	for k := range count {
		if n.from(0, 1) == 0 {
			l = append(l, k)
		}
	}
	return l
}

// matrix returns a matrix whose samples are at most so much in size.
func (n *numbers) matrix(elements, most int) api.FullMatrix {
	m := api.FullMatrix{Elements: elements}
	for _, sample := range n.list(elements*elements*64, -most, most) {
		m.Buffer = append(m.Buffer, float32(sample))
	}
	return m
}

// array returns an array some of whose samples have the echo of a place.
func (n *numbers) array(at api.Spot, thick int) api.BenchArray {
	a := api.BenchArray{Out: n.mode(thick), Back: n.mode(thick)}
	for range n.from(1, 4) {
		a.Elements = append(a.Elements, api.Spot{X: n.from(-500, 500), Z: -n.from(1, 900)})
	}
	steps := []int{n.from(1, 30), n.from(30, 3000), n.from(3000, 200000), n.from(20000, 200000)}
	a.Times.Step = steps[n.from(0, 3)]
	a.Times.First = 1
	echo := must(bench.EchoAt(a, at, [2]int{}))
	a.Times.First = max(0, echo-n.from(-1, 64)*a.Times.Step)
	return a
}

func (n *numbers) task() api.FocusTask {
	thick := n.from(2, 2000)
	g := n.grid(thick)
	a := n.array(g.From, thick)
	return api.FocusTask{Array: a, Matrix: n.matrix(len(a.Elements), 2047), Grid: g}
}

// spots returns the places of all cells, by definition.
func spots(g api.FocusGrid) []api.Spot {
	var l []api.Spot
	for row := range g.Rows {
		for column := range g.Columns {
			l = append(l, api.Spot{X: g.From.X + column*g.Step, Z: g.From.Z + row*g.Step})
		}
	}
	return l
}

// nearest returns the number of the sample whose time is nearest, by definition.
func nearest(s api.Sampling, time int) int {
	r := big.NewRat(int64(time-s.First), int64(s.Step))
	r.Add(r, big.NewRat(1, 2))
	return int(new(big.Int).Div(r.Num(), r.Denom()).Int64())
}

// numberOf returns the number of a cell and a pair, by definition, or -1.
func numberOf(t api.FocusTask, cell int, pair [2]int) int {
	n := nearest(t.Array.Times, must(bench.EchoAt(t.Array, spots(t.Grid)[cell], pair)))
	if n < 0 || n > 60 {
		return -1
	}
	return n
}

// numbersOf returns the numbers that may be, by definition, and whether one
// outside of 0 to 60 may be, too.
func numbersOf(t api.FocusTask, cell int, pair [2]int) (l []int, mayBeOut bool) {
	r := must(bench.EchoRange(t.Array, spots(t.Grid)[cell], pair))
	from, to := nearest(t.Array.Times, r.Lo), nearest(t.Array.Times, r.Hi)
	for n := range 61 {
		if from <= n && n <= to {
			l = append(l, n)
		}
	}
	return l, len(l) != to-from+1
}

// analyticOf returns both parts of an analytic sample, by definition.
func analyticOf(m api.FullMatrix, pair [2]int, n int) [2]int {
	x := func(k int) int { return int(m.Buffer[(pair[0]*m.Elements+pair[1])*64+k]) }
	return [2]int{x(n) - x(n+2), x(n+1) - x(n+3)}
}

// pairsOf returns all pairs of an array, by firings, then by receivers.
func pairsOf(a api.BenchArray) [][2]int {
	var l [][2]int
	for f := range a.Elements {
		for r := range a.Elements {
			l = append(l, [2]int{f, r})
		}
	}
	return l
}

func every([2]int) bool { return true }

// valueOf returns the value of a cell, by definition, of some pairs, and how
// many of them have a number.
func valueOf(t api.FocusTask, cell int, isMeant func([2]int) bool) (complex128, int) {
	var sum [2]int
	count := 0
	for _, pair := range pairsOf(t.Array) {
		if n := numberOf(t, cell, pair); isMeant(pair) && n >= 0 {
			a := analyticOf(t.Matrix, pair, n)
			sum[0] += a[0]
			sum[1] += a[1]
			count++
		}
	}
	return complex(float64(sum[0]), float64(sum[1])), count
}

// imageOf returns the image, by definition, of some pairs, and how many of them
// have a number at each cell.
func imageOf(t api.FocusTask, isMeant func([2]int) bool) (image []complex128, counts []int) {
	for cell := range spots(t.Grid) {
		value, count := valueOf(t, cell, isMeant)
		image = append(image, value)
		counts = append(counts, count)
	}
	return image, counts
}

// fault is something that makes an argument wrong, and what is told then.
type fault[T any] struct {
	spoil func(x *T)
	n     int
	want  api.Errno
}

// eachFault has every fault judged alone, and together with all that are told
// behind it.
func eachFault[T any](fresh func() T, faults []fault[T], judge func(x T, n int, want api.Errno)) {
	for k, f := range faults {
		x := fresh()
		f.spoil(&x)
		judge(x, f.n, f.want)
		x = fresh()
		for j := len(faults) - 1; j >= k; j-- {
			faults[j].spoil(&x)
		}
		judge(x, f.n, f.want)
	}
}

// wrongTasks returns a task for each error that CheckTask may tell.
func wrongTasks() map[api.Errno]api.FocusTask {
	m := map[api.Errno]api.FocusTask{}
	for want, spoil := range map[api.Errno]func(t *api.FocusTask){
		api.ErrShape: func(t *api.FocusTask) { t.Array.Elements = nil },
		api.ErrKind:  func(t *api.FocusTask) { t.Array.Elements[0].Z = 0 },
		api.ErrUnit:  func(t *api.FocusTask) { t.Array.Back.Thick++ },
		api.ErrWhole: func(t *api.FocusTask) { t.Matrix.Buffer[3] = 0.5 },
		api.ErrClash: func(t *api.FocusTask) { t.Array.Elements = append(t.Array.Elements, api.Spot{Z: -1}) },
		api.ErrRange: func(t *api.FocusTask) { t.Grid.Columns = 41 },
		api.ErrLarge: func(t *api.FocusTask) { t.Grid.From.X, t.Grid.Columns = 100000, 2 },
		api.ErrBreak: func(t *api.FocusTask) { t.Grid.From.Z = 1000 },
	} {
		t := one()
		spoil(&t)
		m[want] = t
	}
	return m
}

// wrongNumbers returns numbers of which there is none, where there are so many.
func wrongNumbers(count int) []int {
	return []int{-1, count, count + 1, -huge - 1, huge}
}

// wrongPairs returns pairs that two elements have not.
func wrongPairs() [][2]int {
	return [][2]int{{0, 2}, {2, 0}, {-1, 0}, {0, -1}, {huge, 1}, {1, -huge - 1}}
}

// wrongPowers returns powers that a grid of two cells has not.
func wrongPowers() []found[[]int, api.Errno] {
	return []found[[]int, api.Errno]{
		{nil, api.ErrShape}, {[]int{1}, api.ErrShape}, {[]int{1, 2, 3}, api.ErrShape}, {[]int{-1}, api.ErrShape},
		{[]int{1, -1}, api.ErrRange}, {[]int{-huge - 1, 1}, api.ErrRange},
		{[]int{1000000000000001, 1}, api.ErrRange}, {[]int{1, huge}, api.ErrRange},
	}
}

// wrongGrids returns a grid of two cells for each error that CheckGrid may tell.
func wrongGrids() map[api.Errno]api.FocusGrid {
	zero, far := flat(2, 1), flat(2, 1)
	zero.Step = 0
	far.From.X = 100000
	return map[api.Errno]api.FocusGrid{api.ErrRange: zero, api.ErrLarge: far}
}
