package check_test

import (
	"math"
	"testing"

	"couplant/api"
	"couplant/check"
)

func expect(t *testing.T, what string, e, want api.Errno) {
	t.Helper()
	if e != want {
		t.Errorf("%s: error %d; want error %d", what, e, want)
	}
}

func TestTheFirstErrorIsTold(t *testing.T) {
	expect(t, "none", check.First(), api.OK)
	expect(t, "no error", check.First(api.OK, api.OK), api.OK)
	expect(t, "two errors", check.First(api.OK, api.ErrKind, api.ErrRange), api.ErrKind)
	expect(t, "what holds", check.Unless(true, api.ErrKind), api.OK)
	expect(t, "what does not hold", check.Unless(false, api.ErrKind), api.ErrKind)
}

func TestTheFirstItemWithAnErrorIsTold(t *testing.T) {
	wrong := func(n, item int) api.Errno { return check.Unless(item != n, api.Errno(item)) }
	n, e := check.Each([]int{5, 1, 2}, wrong)
	if n != 1 || e != 1 {
		t.Errorf("the second item: %d, error %d", n, e)
	}
	n, e = check.Each([]int{5, 5}, wrong)
	if n != 0 || e != api.OK {
		t.Errorf("no item: %d, error %d", n, e)
	}
}

func TestLimitsIncludeTheirEnds(t *testing.T) {
	for _, x := range []struct {
		what    string
		e, want api.Errno
	}{
		{"least", check.Within(3, 3, 5), api.OK},
		{"most", check.Within(5, 3, 5), api.OK},
		{"below", check.Within(2, 3, 5), api.ErrRange},
		{"above", check.Within(6, 3, 5), api.ErrRange},
		{"no item", check.Count(0, 2), api.ErrShape},
		{"one item", check.Count(1, 2), api.OK},
		{"two items", check.Count(2, 2), api.OK},
		{"three items", check.Count(3, 2), api.ErrLarge},
		{"corner", check.Place(api.Spot{X: 100000, Z: -100000}), api.OK},
		{"other corner", check.Place(api.Spot{X: -100000, Z: 100000}), api.OK},
		{"X above", check.Place(api.Spot{X: 100001}), api.ErrRange},
		{"X below", check.Place(api.Spot{X: -100001}), api.ErrRange},
		{"Z above", check.Place(api.Spot{Z: 100001}), api.ErrRange},
		{"Z below", check.Place(api.Spot{Z: -100001}), api.ErrRange},
		{"least X", check.Place(api.Spot{X: math.MinInt}), api.ErrRange},
		{"least speed", check.Speed(500), api.OK},
		{"greatest speed", check.Speed(10000), api.OK},
		{"slow", check.Speed(499), api.ErrRange},
		{"fast", check.Speed(10001), api.ErrRange},
	} {
		expect(t, x.what, x.e, x.want)
	}
}

func TestFractionsAreInLowestTerms(t *testing.T) {
	for _, x := range []struct {
		f    api.Frac
		want api.Errno
	}{
		{api.Frac{Num: 3, Den: 2}, api.OK},
		{api.Frac{Num: -3, Den: 2}, api.OK},
		{api.Frac{Num: 0, Den: 1}, api.OK},
		{api.Frac{Num: math.MinInt, Den: 1}, api.OK},
		{api.Frac{Num: math.MinInt, Den: math.MaxInt}, api.OK},
		{api.Frac{Num: math.MinInt, Den: 6}, api.ErrForm},
		{api.Frac{Num: 0, Den: 2}, api.ErrForm},
		{api.Frac{Num: 6, Den: 4}, api.ErrForm},
		{api.Frac{Num: -6, Den: 4}, api.ErrForm},
		{api.Frac{Num: 1, Den: 0}, api.ErrForm},
		{api.Frac{Num: 0, Den: 0}, api.ErrForm},
		{api.Frac{Num: 3, Den: -2}, api.ErrForm},
		{api.Frac{Num: -1, Den: math.MinInt}, api.ErrForm},
	} {
		expect(t, "Lowest", check.Lowest(x.f), x.want)
	}
}
