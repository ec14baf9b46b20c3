package focus_test

import (
	"math"
	"slices"
	"testing"

	"couplant/api"
	"couplant/focus"
)

// early returns the task of the examples with another time of the first sample:
// the echo of its cell comes at 3999980, surely from 3999962 to 4000000.
func early(first, step int) api.FocusTask {
	t := one()
	t.Array.Times = api.Sampling{First: first, Step: step}
	return t
}

// P5.2

func TestNumberAt(t *testing.T) {
	for _, x := range []struct {
		first, step int
		want        int
	}{
		{3900000, 50000, 2},
		{3999980, 10, 0}, {3999985, 10, 0}, {3999975, 10, 1}, {3999976, 10, 0},
		{3999380, 10, 60}, {3999376, 10, 60},
		{0, 66667, 60},
	} {
		expectAlike(t, "NumberAt", must(focus.NumberAt(early(x.first, x.step), 0, [2]int{})), x.want)
	}
	// There is none ahead of the trace, and none of 61 to 63, though these are
	// samples.
	for _, x := range [][2]int{{3999986, 10}, {4050000, 50000}, {3999375, 10}, {3999370, 10}, {3999350, 10}, {3999340, 10}, {0, 1}, {1000000000000, 1}, {1000000000000, 100000000}} {
		n, e := focus.NumberAt(early(x[0], x[1]), 0, [2]int{})
		refused(t, "NumberAt", n, e, api.ErrNone)
	}
}

func TestNumbersAt(t *testing.T) {
	for _, x := range []struct {
		first, step int
		want        api.Range
	}{
		{3900000, 50000, api.Range{Lo: 2, Hi: 2}},
		{3999962, 1, api.Range{Lo: 0, Hi: 38}},
		{3999961, 2, api.Range{Lo: 1, Hi: 20}},
		{3999980, 1, api.Range{Lo: 0, Hi: 20}},
		{4000000, 1, api.Range{Lo: 0, Hi: 0}},
		{4000005, 10, api.Range{Lo: 0, Hi: 0}},
		{3999920, 1, api.Range{Lo: 42, Hi: 60}},
		{3999902, 1, api.Range{Lo: 60, Hi: 60}},
		{3999940, 1, api.Range{Lo: 22, Hi: 60}},
		{3999367, 10, api.Range{Lo: 60, Hi: 60}},
	} {
		expectAlike(t, "NumbersAt", must(focus.NumbersAt(early(x.first, x.step), 0, [2]int{})), x.want)
	}
	for _, x := range [][2]int{{4000001, 1}, {4000006, 10}, {3999901, 1}, {3999357, 10}, {0, 1}, {1000000000000, 1}} {
		r, e := focus.NumbersAt(early(x[0], x[1]), 0, [2]int{})
		refused(t, "NumbersAt", r, e, api.ErrNone)
	}
}

// Each end of a pair is told, also of one without a number, and each way has its
// mode.
func TestNumbersByDefinition(t *testing.T) {
	var n numbers = 2
	for range 150 {
		x := n.task()
		for cell := range spots(x.Grid) {
			for _, pair := range pairsOf(x.Array) {
				checkNumber(t, x, cell, pair)
				checkNumbers(t, x, cell, pair)
			}
		}
	}
}

func checkNumber(t *testing.T, x api.FocusTask, cell int, pair [2]int) {
	t.Helper()
	n, e := focus.NumberAt(x, cell, pair)
	want := numberOf(x, cell, pair)
	if want < 0 {
		refused(t, "NumberAt", n, e, api.ErrNone)
		return
	}
	expect(t, "NumberAt", n, e, want, api.OK)
}

func checkNumbers(t *testing.T, x api.FocusTask, cell int, pair [2]int) {
	t.Helper()
	r, e := focus.NumbersAt(x, cell, pair)
	l, _ := numbersOf(x, cell, pair)
	if len(l) == 0 {
		refused(t, "NumbersAt", r, e, api.ErrNone)
		return
	}
	expect(t, "NumbersAt", r, e, api.Range{Lo: slices.Min(l), Hi: slices.Max(l)}, api.OK)
}

func TestNumbersRefuse(t *testing.T) {
	judge := func(x api.FocusTask, cell int, pair [2]int, want api.Errno) {
		t.Helper()
		n, e := focus.NumberAt(x, cell, pair)
		refused(t, "NumberAt", n, e, want)
		r, e := focus.NumbersAt(x, cell, pair)
		refused(t, "NumbersAt", r, e, want)
	}
	for want, x := range wrongTasks() {
		judge(x, 0, [2]int{}, want)
		judge(x, -1, [2]int{-1, 0}, want)
	}
	for _, cell := range wrongNumbers(6) {
		judge(two(), cell, [2]int{}, api.ErrMissing)
	}
	for _, pair := range wrongPairs() {
		judge(two(), 0, pair, api.ErrMissing)
		late := two()
		late.Array.Times.First = 1000000000000
		judge(late, 0, pair, api.ErrMissing)
		judge(late, 0, [2]int{1, 0}, api.ErrNone)
	}
}

// P5.3

func TestValueOfTheExample(t *testing.T) {
	expectAlike(t, "ValueAt", must(together(focus.ValueAt(one(), 0))), found[complex128, int]{complex(30, -20), 1})
	expectAlike(t, "EndsAt", must(focus.EndsAt(one(), 0)), [2]api.Range{{Lo: 30, Hi: 30}, {Lo: -20, Hi: -20}})
	expectAlike(t, "Image", must(focus.Image(one())), []complex128{complex(30, -20)})
	for first, want := range map[int]complex128{
		4000000: complex(-30, 20), 3950000: complex(20, 30), 3850000: complex(-20, 0),
	} {
		expectAlike(t, "Image", must(focus.Image(early(first, 50000))), []complex128{want})
	}
}

// A pair without a number is left out where it has none.
func TestValueWithoutNumbers(t *testing.T) {
	for _, first := range []int{4050000, 850000, 1000000000000} {
		late := early(first, 50000)
		expectAlike(t, "ValueAt", must(together(focus.ValueAt(late, 0))), found[complex128, int]{})
		expectAlike(t, "Image", must(focus.Image(late)), []complex128{0})
		expectAlike(t, "EndsAt", must(focus.EndsAt(late, 0)), [2]api.Range{})
	}
}

// A pair that may be left out may leave its part at 0.
func TestEndsOfWhatMayBeLeftOut(t *testing.T) {
	x := early(3999980, 1)
	for k := range x.Matrix.Buffer {
		x.Matrix.Buffer[k] = []float32{5, 7, -5, -7}[k%4]
	}
	expectAlike(t, "EndsAt", must(focus.EndsAt(x, 0)), [2]api.Range{{Lo: -14, Hi: 14}, {Lo: -14, Hi: 14}})
	// From 3999962 on all numbers are there, from 0 to 38.
	for k := range x.Matrix.Buffer {
		x.Matrix.Buffer[k] = float32(-3 * k)
	}
	for first, want := range map[int]api.Range{
		3999962: {Lo: 6, Hi: 6}, 3999940: {Lo: 6, Hi: 6}, 3999939: {Lo: 0, Hi: 6}, 3999963: {Lo: 0, Hi: 6}, 4000000: {Lo: 0, Hi: 6}, 4000001: {}, 3999902: {Lo: 0, Hi: 6}, 3999901: {},
	} {
		x.Array.Times.First = first
		expectAlike(t, "EndsAt", must(focus.EndsAt(x, 0)), [2]api.Range{want, want})
	}
}

func TestValuesByDefinition(t *testing.T) {
	var n numbers = 3
	for range 150 {
		x := n.task()
		image, counts := imageOf(x, every)
		expectAlike(t, "Image", must(focus.Image(x)), image)
		for cell := range image {
			expectAlike(t, "ValueAt", must(together(focus.ValueAt(x, cell))), found[complex128, int]{image[cell], counts[cell]})
			expectAlike(t, "EndsAt", must(focus.EndsAt(x, cell)), endsOf(x, cell))
		}
	}
}

// endsOf returns the ends of a cell, by definition.
func endsOf(t api.FocusTask, cell int) (ends [2]api.Range) {
	for _, pair := range pairsOf(t.Array) {
		l, mayBeOut := numbersOf(t, cell, pair)
		for part := range 2 {
			var may []int
			for _, n := range l {
				may = append(may, analyticOf(t.Matrix, pair, n)[part])
			}
			if mayBeOut {
				may = append(may, 0)
			}
			slices.Sort(may)
			ends[part].Lo += may[0]
			ends[part].Hi += may[len(may)-1]
		}
	}
	return ends
}

func TestValuesRefuse(t *testing.T) {
	for want, x := range wrongTasks() {
		l, e := focus.Image(x)
		refused(t, "Image", l, e, want)
		for _, cell := range []int{0, -1, huge} {
			v, e := together(focus.ValueAt(x, cell))
			refused(t, "ValueAt", v, e, want)
			r, e := focus.EndsAt(x, cell)
			refused(t, "EndsAt", r, e, want)
		}
	}
	for _, cell := range wrongNumbers(6) {
		v, e := together(focus.ValueAt(two(), cell))
		refused(t, "ValueAt", v, e, api.ErrMissing)
		r, e := focus.EndsAt(two(), cell)
		refused(t, "EndsAt", r, e, api.ErrMissing)
	}
}

// zeros returns a task whose matrix has samples of 0 and -0 alone.
func zeros() api.FocusTask {
	t := two()
	for k := range t.Matrix.Buffer {
		t.Matrix.Buffer[k] = float32(math.Copysign(0, float64(k%3-1)))
	}
	return t
}

func TestNoPartIsMinusZero(t *testing.T) {
	x := zeros()
	expectAlike(t, "Image", must(focus.Image(x)), make([]complex128, 6))
	expectAlike(t, "Share", must(focus.Share(x, []int{1})), make([]complex128, 6))
	expectAlike(t, "Dealt", must(focus.Dealt(x, [][]int{{1}, nil, {0}})), make([]complex128, 6))
	expectAlike(t, "WithoutDead", must(focus.WithoutDead(x, []int{0})), make([]complex128, 6))
	expectAlike(t, "ValueAt", must(together(focus.ValueAt(x, 2))).a, 0)
	minus := math.Copysign(0, -1)
	l := [][]complex128{{complex(minus, minus), 1}, {complex(minus, minus), complex(-1, minus)}}
	expectAlike(t, "Merged", must(focus.Merged(l)), make([]complex128, 2))
	expectAlike(t, "Merged", must(focus.Merged(l[:1])), []complex128{0, 1})
	expectAlike(t, "Powers", must(focus.Powers(l[0])), []int{0, 1})
}

// P5.1 and P5.3: the greatest task is worked out soon.
func TestTheGreatestTask(t *testing.T) {
	x := one()
	x.Grid = api.FocusGrid{From: api.Spot{X: -20, Z: 500}, Columns: 40, Rows: 40, Step: 1}
	x.Array.Elements = nil
	for n := range 16 {
		x.Array.Elements = append(x.Array.Elements, api.Spot{X: 10 * n, Z: -300 - 10*n})
	}
	x.Array.Times.Step = 100000
	x.Matrix = api.FullMatrix{Elements: 16}
	for k := range 16 * 16 * 64 {
		x.Matrix.Buffer = append(x.Matrix.Buffer, []float32{2047, -2047, -2047, 2047}[k%4])
	}
	image := must(focus.Image(x))
	deal := [][]int{{15, 0}, {1, 2, 3, 4, 5}, {}, {14, 13, 12, 11, 10, 9}, {6, 7}, {8}}
	expectAlike(t, "Dealt", must(focus.Dealt(x, deal)), image)
	for _, cell := range []int{0, 1, 39, 40, 1599} {
		value, count := valueOf(x, cell, every)
		expectAlike(t, "Image", image[cell], value)
		expectAlike(t, "ValueAt", must(together(focus.ValueAt(x, cell))), found[complex128, int]{value, count})
	}
	must(focus.Powers(image))
}
