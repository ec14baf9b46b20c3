package focus_test

import (
	"reflect"
	"slices"
	"testing"

	"couplant/api"
	"couplant/bench"
	"couplant/focus"
	"couplant/trace"
)

// sum returns the sum of matrices, or of images.
func sum[T float32 | complex128](a, b []T) []T {
	c := slices.Clone(a)
	for k := range c {
		c[k] += b[k]
	}
	return c
}

// P5.8

func TestDealsMakeTheSameImage(t *testing.T) {
	var n numbers = 11
	for range 100 {
		x := n.task()
		image := must(focus.Image(x))
		for range 3 {
			deal := n.deal(len(x.Array.Elements))
			expectAlike(t, "Dealt", must(focus.Dealt(x, deal)), image)
			var shares [][]complex128
			for _, firings := range deal {
				shares = append(shares, must(focus.Share(x, firings)))
			}
			expectAlike(t, "Merged", must(focus.Merged(shares)), image)
		}
	}
}

func TestSharesAddUp(t *testing.T) {
	var n numbers = 12
	for range 100 {
		x := n.task()
		both := n.mixed(len(x.Array.Elements))
		both = both[:n.from(0, len(both))]
		k := n.from(0, len(both))
		shares := [][]complex128{must(focus.Share(x, both[:k])), must(focus.Share(x, both[k:]))}
		expectAlike(t, "Merged", must(focus.Merged(shares)), must(focus.Share(x, both)))
	}
}

// P5.9

func TestValuesLieWithinTheirEnds(t *testing.T) {
	var n numbers = 13
	for range 150 {
		x := n.task()
		for cell, value := range must(focus.Image(x)) {
			ends := must(focus.EndsAt(x, cell))
			for part, y := range []float64{real(value), imag(value)} {
				if y < float64(ends[part].Lo) || y > float64(ends[part].Hi) {
					t.Errorf("%v at %d: %v is not within %v", x, cell, value, ends)
				}
			}
			for _, pair := range pairsOf(x.Array) {
				k, e := focus.NumberAt(x, cell, pair)
				if e != api.OK {
					continue
				}
				r := must(focus.NumbersAt(x, cell, pair))
				if k < r.Lo || k > r.Hi {
					t.Errorf("%v at %d, %v: %d is not within %v", x, cell, pair, k, r)
				}
			}
		}
	}
}

// P5.10

func TestImagesAddUp(t *testing.T) {
	var n numbers = 14
	for range 100 {
		x := n.task()
		y, z := x, x
		x.Matrix = n.matrix(len(x.Array.Elements), 1000)
		y.Matrix = n.matrix(len(x.Array.Elements), 1000)
		z.Matrix.Buffer = sum(x.Matrix.Buffer, y.Matrix.Buffer)
		expectAlike(t, "Image", must(focus.Image(z)), sum(must(focus.Image(x)), must(focus.Image(y))))
	}
}

func TestAllDeadAndNoneDead(t *testing.T) {
	var n numbers = 15
	for range 100 {
		x := n.task()
		cells := x.Grid.Columns * x.Grid.Rows
		expectAlike(t, "WithoutDead", must(focus.WithoutDead(x, nil)), must(focus.Image(x)))
		var all []int
		for k := range x.Array.Elements {
			all = append(all, k)
		}
		expectAlike(t, "WithoutDead", must(focus.WithoutDead(x, all)), make([]complex128, cells))
		expectAlike(t, "Coverage", must(focus.Coverage(x, all)), make([]int, cells))
	}
}

// P5.11

func TestPeakIsAPeak(t *testing.T) {
	var n numbers = 16
	for range 500 {
		g, powers := n.powered()
		peak, e := focus.Peak(g, powers)
		if e != api.OK {
			refused(t, "Peak", peak, e, api.ErrNone)
			continue
		}
		if !slices.Contains(must(focus.Peaks(g, powers)), peak) {
			t.Errorf("%v: %d is no peak", powers, peak)
		}
		var greatest []int
		for cell, power := range powers {
			if power == slices.Max(powers) {
				greatest = append(greatest, cell)
			}
		}
		expectAlike(t, "Peak", peak, greatest[0])
		expectAlike(t, "Above", must(focus.Above(g, powers, powers[peak])), greatest)
		for _, down := range []bool{false, true} {
			r := must(focus.DropOf(g, powers, api.FocusDrop{Cell: peak, Down: down, Num: 1, Den: 4}))
			at := peak % g.Columns
			if down {
				at = peak / g.Columns
			}
			if at < r.Lo || at > r.Hi {
				t.Errorf("%v: %d is not in %v", powers, at, r)
			}
		}
	}
}

// pored returns a task with the echoes of pores.
func pored(pores ...api.BenchFlaw) api.FocusTask {
	x := one()
	for k := range 8 {
		x.Array.Elements = append(x.Array.Elements, api.Spot{X: 60*k - 240, Z: -300})
	}
	x.Array.Times = api.Sampling{First: 3500000, Step: 50000}
	x.Matrix = must(bench.MatrixOf(api.BenchSpecimen{Array: x.Array, Pulse: []int{3, -2}, Flaws: pores}))
	x.Grid = api.FocusGrid{From: api.Spot{X: -200, Z: 300}, Columns: 9, Rows: 9, Step: 50}
	return x
}

func pore(x, z, amplitude int) api.BenchFlaw {
	return api.BenchFlaw{From: api.Spot{X: x, Z: z}, Amplitude: amplitude}
}

// P2: an image adds up over flaws, and that of a pore peaks at the pore. There
// each pair has its first sample, and adds as much as a pair can.
func TestImageOfPores(t *testing.T) {
	first, second := pore(-100, 400, 10), pore(150, 600, 7)
	x, y := pored(first), pored(second)
	expectAlike(t, "Image", must(focus.Image(pored(first, second))), sum(must(focus.Image(x)), must(focus.Image(y))))
	for _, c := range []struct {
		task api.FocusTask
		pore api.BenchFlaw
	}{{x, first}, {y, second}} {
		powers := must(focus.Powers(must(focus.Image(c.task))))
		peak := must(focus.Peak(c.task.Grid, powers))
		expectAlike(t, "the place of the peak", must(focus.SpotAt(c.task.Grid, peak)), c.pore.From)
	}
}

// P2: the image of a matrix behind its way through the bytes of a frame is the
// same one.
func TestImageOfAFrame(t *testing.T) {
	x := pored(pore(0, 400, 10))
	bytes := must(trace.FormatFrame(api.TraceFrame{Position: 5, Matrix: x.Matrix}))
	y := x
	y.Matrix = must(trace.ParseFrame(bytes)).Matrix
	expectAlike(t, "Image", must(focus.Image(y)), must(focus.Image(x)))
}

// R3: arguments stay as they are, and results are in their own memory.
func TestArgumentsStay(t *testing.T) {
	x := two()
	kept := copied(x)
	deal, dead := [][]int{{1}, {0}}, []int{1}
	modes := [][2]api.RayMode{{x.Array.Back, x.Array.Out}}
	for range 2 {
		for _, l := range [][]complex128{
			must(focus.Image(x)), must(focus.Share(x, deal[0])), must(focus.Dealt(x, deal)), must(focus.WithoutDead(x, dead)),
		} {
			clear(l)
		}
		clear(must(focus.Coverage(x, dead)))
		best, powers, _ := focus.BestModes(x, modes)
		clear(best)
		clear(powers)
	}
	if !reflect.DeepEqual(x, kept) {
		t.Errorf("the task has become %v", x)
	}
	expectAlike(t, "the deal", deal, [][]int{{1}, {0}})
	expectAlike(t, "the dead elements", dead, []int{1})
	expectAlike(t, "the modes", modes, [][2]api.RayMode{{x.Array.Back, x.Array.Out}})
}

func TestImagesAndPowersStay(t *testing.T) {
	l := [][]complex128{{1, 2}}
	clear(must(focus.Merged(l)))
	expectAlike(t, "the images", l, [][]complex128{{1, 2}})
	g, powers := flat(2, 2), []int{1, 2, 3, 4}
	clear(must(focus.Peaks(g, powers)))
	clear(must(focus.Above(g, powers, 1)))
	must(focus.DropOf(g, powers, api.FocusDrop{Cell: 1, Num: 1, Den: 1}))
	s := must(focus.PrintPowers(g, powers))
	x, _ := parse(s)
	clear(x.powers)
	expectAlike(t, "the powers", powers, []int{1, 2, 3, 4})
	expectParsed(t, s, g, powers)
}
