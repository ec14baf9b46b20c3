package ray_test

import (
	"math/big"
	"testing"

	"couplant/api"
	"couplant/ray"
)

// P1.5, and its consequence P1.9

func wrongSpeeds() []int {
	return []int{499, 10001, 0, -5000, huge, -huge - 1}
}

func wrongDirections() [][2]int {
	return [][2]int{
		{1001, 1}, {-1001, 1}, {huge, 1}, {-huge - 1, 1},
		{1, 0}, {1, -1}, {1, 1001}, {1, huge}, {1, -huge - 1}, {0, 0},
	}
}

func TestCriticalSquare(t *testing.T) {
	for _, x := range []struct {
		first, second int
		want          api.Frac
	}{
		{2500, 5000, api.Frac{Num: 1, Den: 4}},
		{500, 10000, api.Frac{Num: 1, Den: 400}},
		{2730, 5900, api.Frac{Num: 74529, Den: 348100}},
		{9999, 10000, api.Frac{Num: 99980001, Den: 100000000}},
	} {
		f, e := ray.CriticalSquare(x.first, x.second)
		expect(t, "CriticalSquare", f, e, x.want, api.OK)
	}
	for _, v := range [][2]int{{5000, 5000}, {5001, 5000}, {10000, 500}} {
		f, e := ray.CriticalSquare(v[0], v[1])
		expect(t, "CriticalSquare where all passes", f, e, api.Frac{}, api.ErrNone)
	}
	for _, v := range wrongSpeeds() {
		f, e := ray.CriticalSquare(v, 5000)
		expect(t, "CriticalSquare of a wrong speed", f, e, api.Frac{}, api.ErrRange)
		f, e = ray.CriticalSquare(5000, v)
		expect(t, "CriticalSquare to a wrong speed", f, e, api.Frac{}, api.ErrRange)
	}
}

func TestPasses(t *testing.T) {
	for _, x := range []struct {
		direction     [2]int
		first, second int
		want          bool
	}{
		{[2]int{3, 4}, 2500, 5000, false},
		{[2]int{1, 2}, 2500, 5000, true},
		{[2]int{-1, 2}, 2500, 5000, true},
		{[2]int{-3, 4}, 2500, 5000, false},
		{[2]int{3, 4}, 3000, 5000, true},
		{[2]int{3, 4}, 2999, 5000, false},
		{[2]int{-3, 4}, 3000, 5001, false},
		{[2]int{0, 1}, 500, 10000, true},
		{[2]int{1000, 1}, 5000, 5000, true},
		{[2]int{-1000, 1}, 10000, 500, true},
		{[2]int{1000, 1}, 5000, 5001, false},
		{[2]int{1000, 1000}, 7071, 10000, false},
		{[2]int{1000, 1000}, 7072, 10000, true},
	} {
		p, e := ray.Passes(x.direction, x.first, x.second)
		expect(t, "Passes", p, e, x.want, api.OK)
	}
}

func TestBehindSquare(t *testing.T) {
	for _, x := range []struct {
		direction     [2]int
		first, second int
		want          api.Frac
		e             api.Errno
	}{
		{[2]int{1, 2}, 2500, 5000, api.Frac{Num: 4, Den: 5}, api.OK},
		{[2]int{-1, 2}, 2500, 5000, api.Frac{Num: 4, Den: 5}, api.OK},
		{[2]int{3, 4}, 3000, 5000, api.Frac{Num: 1, Den: 1}, api.OK},
		{[2]int{0, 7}, 500, 10000, api.Frac{Num: 0, Den: 1}, api.OK},
		{[2]int{0, 997}, 9973, 9967, api.Frac{Num: 0, Den: 1}, api.OK},
		{[2]int{3, 4}, 2500, 5000, api.Frac{}, api.ErrNone},
		{[2]int{997, 1}, 9967, 9973, api.Frac{}, api.ErrNone},
		{[2]int{997, 991}, 9973, 9967, api.Frac{}, api.ErrLarge},
		{[2]int{1, 1000}, 5000, 5000, api.Frac{Num: 1, Den: 1000001}, api.OK},
		{[2]int{1, 3}, 10000, 500, api.Frac{Num: 1, Den: 4000}, api.OK},
	} {
		f, e := ray.BehindSquare(x.direction, x.first, x.second)
		expect(t, "BehindSquare", f, e, x.want, x.e)
	}
}

func TestBehindSquareUpToTheLimit(t *testing.T) {
	// The sine squared 1/10, times 501 squared by 10^8, has the denominator
	// 10^9, which is not too large; 1/5 has half of it, 1/17 more.
	f, e := ray.BehindSquare([2]int{1, 3}, 10000, 501)
	expect(t, "BehindSquare at the limit", f, e, api.Frac{Num: 251001, Den: 1000000000}, api.OK)
	f, e = ray.BehindSquare([2]int{1, 2}, 10000, 501)
	expect(t, "BehindSquare below the limit", f, e, api.Frac{Num: 251001, Den: 500000000}, api.OK)
	f, e = ray.BehindSquare([2]int{2, 6}, 10000, 501)
	expect(t, "BehindSquare in lowest terms", f, e, api.Frac{Num: 251001, Den: 1000000000}, api.OK)
	f, e = ray.BehindSquare([2]int{1, 4}, 10000, 501)
	expect(t, "BehindSquare beyond the limit", f, e, api.Frac{}, api.ErrLarge)
}

func TestDirectionsRefuse(t *testing.T) {
	for _, d := range wrongDirections() {
		p, e := ray.Passes(d, 2500, 5000)
		expect(t, "Passes of a wrong direction", p, e, false, api.ErrRange)
		f, e := ray.BehindSquare(d, 2500, 5000)
		expect(t, "BehindSquare of a wrong direction", f, e, api.Frac{}, api.ErrRange)
		is, e := ray.SteepWithin(d, api.Frac{Num: 0, Den: 0}, api.Frac{Num: 1, Den: 1})
		expect(t, "SteepWithin of a wrong direction", is, e, false, api.ErrRange)
	}
	for _, v := range wrongSpeeds() {
		p, e := ray.Passes([2]int{1, 2}, v, 5000)
		expect(t, "Passes from a wrong speed", p, e, false, api.ErrRange)
		p, e = ray.Passes([2]int{1, 2}, 5000, v)
		expect(t, "Passes to a wrong speed", p, e, false, api.ErrRange)
		f, e := ray.BehindSquare([2]int{1, 2}, v, 5000)
		expect(t, "BehindSquare from a wrong speed", f, e, api.Frac{}, api.ErrRange)
		f, e = ray.BehindSquare([2]int{1, 2}, 5000, v)
		expect(t, "BehindSquare to a wrong speed", f, e, api.Frac{}, api.ErrRange)
	}
}

func TestSteepWithin(t *testing.T) {
	zero, half, one := api.Frac{Num: 0, Den: 1}, api.Frac{Num: 1, Den: 2}, api.Frac{Num: 1, Den: 1}
	steepest := api.Frac{Num: api.MaxPart, Den: 1}
	for _, x := range []struct {
		direction   [2]int
		least, most api.Frac
		want        bool
	}{
		{[2]int{3, 4}, half, one, true},
		{[2]int{-3, 4}, half, one, true},
		{[2]int{1, 2}, half, one, true},
		{[2]int{-1, 2}, half, half, true},
		{[2]int{499, 1000}, half, one, false},
		{[2]int{1, 1}, half, one, true},
		{[2]int{-1000, 999}, half, one, false},
		{[2]int{1000, 1}, half, steepest, true},
		{[2]int{1000, 1}, api.Frac{Num: 999999999, Den: 1000000}, api.Frac{Num: 1000000000, Den: 999999}, true},
		{[2]int{1000, 1}, api.Frac{Num: 1000000000, Den: 999999}, steepest, false},
		{[2]int{0, 5}, zero, one, true},
		{[2]int{0, 5}, zero, zero, true},
		{[2]int{0, 5}, api.Frac{Num: 1, Den: api.MaxPart}, one, false},
	} {
		is, e := ray.SteepWithin(x.direction, x.least, x.most)
		expect(t, "SteepWithin", is, e, x.want, api.OK)
	}
}

func TestSteepWithinRefuses(t *testing.T) {
	good, one := api.Frac{Num: 1, Den: 2}, api.Frac{Num: 1, Den: 1}
	forms := []api.Frac{
		{}, {Num: 1, Den: 0}, {Num: 1, Den: -1}, {Num: 2, Den: 4}, {Num: 0, Den: 2},
		{Num: -2, Den: 4}, {Num: -huge - 1, Den: 2}, {Num: 1, Den: -huge - 1}, {Num: -huge - 1, Den: -huge - 1},
		{Num: 2, Den: 2000000000}, {Num: 2000000000, Den: 2},
	}
	ranges := []api.Frac{
		{Num: -1, Den: 2}, {Num: -huge - 1, Den: 3}, {Num: api.MaxPart + 1, Den: 1},
		{Num: 1, Den: api.MaxPart + 1}, {Num: huge, Den: 1}, {Num: 1, Den: huge}, {Num: -huge - 1, Den: 1},
	}
	refuse := func(what string, least, most api.Frac, want api.Errno) {
		t.Helper()
		is, e := ray.SteepWithin([2]int{3, 4}, least, most)
		expect(t, what, is, e, false, want)
	}
	for _, f := range forms {
		refuse("a wrong form of least", f, one, api.ErrForm)
		refuse("a wrong form of most", good, f, api.ErrForm)
		refuse("a wrong form ahead of a wrong range", f, ranges[0], api.ErrForm)
	}
	for _, f := range ranges {
		refuse("a wrong range of least", f, one, api.ErrRange)
		refuse("a wrong range of most", good, f, api.ErrRange)
		refuse("a wrong range ahead of a wrong form", f, forms[0], api.ErrRange)
	}
	refuse("limits that fall", one, good, api.ErrOrder)
	refuse("limits that fall by little", api.Frac{Num: api.MaxPart, Den: api.MaxPart - 1}, one, api.ErrOrder)
}

func TestSnell(t *testing.T) { // P1.9
	var n numbers = 31
	for range 2000 {
		d := [2]int{n.from(-40, 40), n.from(1, 1000)}
		first, second := n.from(5, 100)*100, n.from(5, 100)*100
		passes, _ := ray.Passes(d, first, second)
		sine := big.NewRat(int64(d[0]*d[0]), int64(d[0]*d[0]+d[1]*d[1]))
		ratio := big.NewRat(int64(second*second), int64(first*first))
		exact := new(big.Rat).Mul(sine, ratio)
		if passes != (exact.Cmp(big.NewRat(1, 1)) <= 0) {
			t.Errorf("Passes(%v, %d, %d): %v", d, first, second, passes)
		}
		f, e := ray.BehindSquare(d, first, second)
		large := exact.Num().Cmp(whole(api.MaxPart)) > 0 || exact.Denom().Cmp(whole(api.MaxPart)) > 0
		switch {
		case !passes:
			expect(t, "BehindSquare", f, e, api.Frac{}, api.ErrNone)
		case large:
			expect(t, "BehindSquare", f, e, api.Frac{}, api.ErrLarge)
		default:
			want := api.Frac{Num: int(exact.Num().Int64()), Den: int(exact.Denom().Int64())}
			expect(t, "BehindSquare", f, e, want, api.OK)
			if f.Num > f.Den {
				t.Errorf("BehindSquare(%v, %d, %d) is above 1: %v", d, first, second, f)
			}
		}
	}
}

func TestPassesJustToTheCriticalSquare(t *testing.T) { // P1.5: nothing passes beyond it
	var n numbers = 37
	for range 1000 {
		d := [2]int{n.from(-1000, 1000), n.from(1, 1000)}
		first, second := n.speed(), n.speed()
		critical, e := ray.CriticalSquare(first, second)
		passes, _ := ray.Passes(d, first, second)
		sine := big.NewRat(int64(d[0]*d[0]), int64(d[0]*d[0]+d[1]*d[1]))
		if e == api.ErrNone {
			expect(t, "Passes where all passes", passes, api.OK, true, api.OK)
			continue
		}
		limit := big.NewRat(int64(critical.Num), int64(critical.Den))
		expect(t, "Passes", passes, api.OK, sine.Cmp(limit) <= 0, api.OK)
	}
}
