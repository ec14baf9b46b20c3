package whole_test

import (
	"math"
	"math/big"
	"testing"

	"couplant/api"
	"couplant/whole"
)

func expect[T comparable](t *testing.T, what string, got, want T) {
	t.Helper()
	if got != want {
		t.Errorf("%s: %v; want %v", what, got, want)
	}
}

// down returns a fraction, rounded down.
func down(r *big.Rat) int {
	return int(new(big.Int).Div(r.Num(), r.Denom()).Int64())
}

func TestQuotientsAreRounded(t *testing.T) {
	for a := -40; a <= 40; a++ {
		for b := 1; b <= 9; b++ {
			r := big.NewRat(int64(a), int64(b))
			expect(t, "DivideDown", whole.DivideDown(a, b), down(r))
			expect(t, "DivideUp", whole.DivideUp(a, b), -down(new(big.Rat).Neg(r)))
			expect(t, "Enclosed", whole.Enclosed(a, b), api.Range{Lo: down(r), Hi: -down(new(big.Rat).Neg(r))})
			expect(t, "Nearest", whole.Nearest(a, b), down(new(big.Rat).Add(r, big.NewRat(1, 2))))
		}
	}
	expect(t, "DivideDown of the least", whole.DivideDown(math.MinInt, 3), math.MinInt/3-1)
	expect(t, "DivideUp of the greatest", whole.DivideUp(math.MaxInt, 2), 1<<62)
}

func TestRootsAreRounded(t *testing.T) {
	for n := range 5000 {
		r := whole.RootDown(n)
		if r < 0 || r*r > n || (r+1)*(r+1) <= n {
			t.Fatalf("RootDown of %d: %d", n, r)
		}
	}
	const last = 1<<31 - 1
	for _, x := range []struct{ n, down, up int }{
		{0, 0, 0}, {1, 1, 1}, {2, 1, 2}, {3, 1, 2}, {4, 2, 2}, {5, 2, 3},
		{last * last, last, last},
		{last*last - 1, last - 1, last},
		{last*last + 1, last, last + 1},
		{1<<62 - 1, last, last + 1},
	} {
		expect(t, "RootDown", whole.RootDown(x.n), x.down)
		expect(t, "RootUp", whole.RootUp(x.n), x.up)
	}
}

func TestSizes(t *testing.T) {
	expect(t, "above", whole.SizeOf(7), 7)
	expect(t, "below", whole.SizeOf(-7), 7)
	expect(t, "just below", whole.SizeOf(-1), 1)
	expect(t, "none", whole.SizeOf(0), 0)
	expect(t, "the least", whole.SizeOf(math.MinInt), 1<<63)
	expect(t, "the greatest", whole.SizeOf(math.MaxInt), 1<<63-1)
}

func TestProductsAreCompared(t *testing.T) {
	numbers := []int{0, 1, 2, 3, 7, 1 << 31, 1<<32 - 1, 1 << 32, 1<<32 + 1, 1 << 62, math.MaxInt - 1, math.MaxInt}
	product := func(a, b int) *big.Int { return new(big.Int).Mul(big.NewInt(int64(a)), big.NewInt(int64(b))) }
	for _, a := range numbers {
		for _, b := range numbers {
			for _, c := range numbers {
				for _, d := range numbers {
					expect(t, "CompareProducts", whole.CompareProducts(a, b, c, d), product(a, b).Cmp(product(c, d)))
				}
			}
		}
	}
}

func TestCommonDivisorsAndLowestTerms(t *testing.T) {
	for _, x := range []struct {
		a, b int
		want uint
	}{
		{12, 18, 6}, {18, 12, 6}, {-12, 18, 6}, {12, -18, 6}, {7, 5, 1},
		{0, 5, 5}, {5, 0, 5}, {0, 0, 0}, {math.MinInt, 6, 2}, {math.MinInt, math.MinInt, 1 << 63},
	} {
		expect(t, "CommonDivisor", whole.CommonDivisor(x.a, x.b), x.want)
	}
	for _, x := range []struct {
		num, den int
		want     api.Frac
	}{
		{12, 18, api.Frac{Num: 2, Den: 3}}, {-12, 18, api.Frac{Num: -2, Den: 3}},
		{0, 18, api.Frac{Num: 0, Den: 1}}, {5, 7, api.Frac{Num: 5, Den: 7}},
	} {
		expect(t, "LowestTerms", whole.LowestTerms(x.num, x.den), x.want)
	}
}

func TestWholeFloats(t *testing.T) {
	for _, x := range []float64{0, math.Copysign(0, -1), 1, -1, 2047, 1 << 53, -1e300, math.MaxFloat64} {
		expect(t, "IsWhole", whole.IsWhole(x), true)
	}
	for _, x := range []float64{0.5, -0.5, 1.25, 1 << 52 * (1 - 1.0/(1<<53)), 5e-324, math.NaN(), math.Inf(1), math.Inf(-1)} {
		expect(t, "IsWhole", whole.IsWhole(x), false)
	}
}
