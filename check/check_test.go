package check_test

import (
	"fmt"
	"math"
	"strings"
	"testing"

	"couplant/api"
	"couplant/check"
)

func expect(t *testing.T, what string, e, want api.Errno) {
	t.Helper()
	if e != want {
		t.Errorf("%s: error %d; want error %d", what, e, want)
	}
}

func TestTheFirstErrorIsTold(t *testing.T) {
	expect(t, "none", check.First(), api.OK)
	expect(t, "no error", check.First(api.OK, api.OK), api.OK)
	expect(t, "two errors", check.First(api.OK, api.ErrKind, api.ErrRange), api.ErrKind)
	expect(t, "what holds", check.Unless(true, api.ErrKind), api.OK)
	expect(t, "what does not hold", check.Unless(false, api.ErrKind), api.ErrKind)
}

func TestTheFirstItemWithAnErrorIsTold(t *testing.T) {
	wrong := func(n, item int) api.Errno { return check.Unless(item != n, api.Errno(item)) }
	n, e := check.Each([]int{5, 1, 2}, wrong)
	if n != 1 || e != 1 {
		t.Errorf("the second item: %d, error %d", n, e)
	}
	n, e = check.Each([]int{5, 5}, wrong)
	if n != 0 || e != api.OK {
		t.Errorf("no item: %d, error %d", n, e)
	}
}

func TestLimitsIncludeTheirEnds(t *testing.T) {
	for _, x := range []struct {
		what    string
		e, want api.Errno
	}{
		{"least", check.Within(3, 3, 5), api.OK},
		{"most", check.Within(5, 3, 5), api.OK},
		{"below", check.Within(2, 3, 5), api.ErrRange},
		{"above", check.Within(6, 3, 5), api.ErrRange},
		{"no item", check.Count(0, 2), api.ErrShape},
		{"one item", check.Count(1, 2), api.OK},
		{"two items", check.Count(2, 2), api.OK},
		{"three items", check.Count(3, 2), api.ErrLarge},
		{"corner", check.Place(api.Spot{X: 100000, Z: -100000}), api.OK},
		{"other corner", check.Place(api.Spot{X: -100000, Z: 100000}), api.OK},
		{"X above", check.Place(api.Spot{X: 100001}), api.ErrRange},
		{"X below", check.Place(api.Spot{X: -100001}), api.ErrRange},
		{"Z above", check.Place(api.Spot{Z: 100001}), api.ErrRange},
		{"Z below", check.Place(api.Spot{Z: -100001}), api.ErrRange},
		{"least X", check.Place(api.Spot{X: math.MinInt}), api.ErrRange},
		{"upper depth", check.Depth(1, 20), api.OK},
		{"lower depth", check.Depth(19, 20), api.OK},
		{"the surface", check.Depth(0, 20), api.ErrBreak},
		{"the back wall", check.Depth(20, 20), api.ErrBreak},
		{"the wedge", check.Depth(math.MinInt, 20), api.ErrBreak},
		{"least speed", check.Speed(500), api.OK},
		{"greatest speed", check.Speed(10000), api.OK},
		{"slow", check.Speed(499), api.ErrRange},
		{"fast", check.Speed(10001), api.ErrRange},
	} {
		expect(t, x.what, x.e, x.want)
	}
}

func TestRangesHaveTheirEndsInOrder(t *testing.T) {
	for _, x := range []struct {
		r    api.Range
		want api.Errno
	}{
		{api.Range{Lo: -3, Hi: 5}, api.OK},
		{api.Range{Lo: 5, Hi: 5}, api.OK},
		{api.Range{Lo: -4, Hi: 5}, api.ErrRange},
		{api.Range{Lo: -3, Hi: 6}, api.ErrRange},
		{api.Range{Lo: 6, Hi: -4}, api.ErrRange},
		{api.Range{Lo: 6, Hi: 5}, api.ErrRange},
		{api.Range{Lo: 0, Hi: -4}, api.ErrRange},
		{api.Range{Lo: math.MaxInt, Hi: math.MinInt}, api.ErrRange},
		{api.Range{Lo: 5, Hi: 4}, api.ErrOrder},
		{api.Range{Lo: 5, Hi: -3}, api.ErrOrder},
	} {
		expect(t, "Range", check.Range(x.r, -3, 5), x.want)
	}
}

func TestNames(t *testing.T) {
	for _, s := range []string{"a", "z", "A", "Z", "wedge", "a-", "b0", "Z9-9-z", "abcdefghijkl", "a-----------"} {
		expect(t, s, check.Name(s), api.OK)
	}
	for _, s := range []string{
		"", "-", "-a", "0", "9a", "abcdefghijklm", "a b", " a", "a ", "a\n", "a_", "a.", "a/", "a:", "a@", "a[", "a`", "a{",
		"@", "[", "`", "{", "\u00e9", "a\u00e9", "a\u0661", "a\x00", "a\xff", "\xff", "\xc1", strings.Repeat("a", 100000),
	} {
		expect(t, fmt.Sprintf("%.20q", s), check.Name(s), api.ErrName)
	}
}

func TestNamesOfItemsAreFresh(t *testing.T) {
	list := []string{"a", "b", "a", "c", "b", "a", ""}
	for n, want := range []api.Errno{api.OK, api.OK, api.ErrExists, api.OK, api.ErrExists, api.ErrExists, api.OK} {
		e := check.Fresh(list, n, func(item string) string { return item })
		expect(t, fmt.Sprint("the item ", n), e, want)
	}
	e := check.Fresh([]int{11, 12, 21}, 2, func(item int) string { return fmt.Sprint(item % 10) })
	expect(t, "the name of an item", e, api.ErrExists)
}

func TestWhatIsNotThereIsMissing(t *testing.T) {
	for n, want := range map[int]api.Errno{
		0: api.OK, 2: api.OK, -1: api.ErrMissing, 3: api.ErrMissing, math.MinInt: api.ErrMissing, math.MaxInt: api.ErrMissing,
	} {
		expect(t, "item", check.Item(n, 3), want)
		expect(t, "firing", check.Pair([2]int{n, 0}, 3), want)
		expect(t, "receiver", check.Pair([2]int{2, n}, 3), want)
	}
	expect(t, "no item", check.Item(0, 0), api.ErrMissing)
}

func TestNumbersOfItemsAscend(t *testing.T) {
	for _, x := range []struct {
		l    []int
		want api.Errno
	}{
		{nil, api.OK}, {[]int{0}, api.OK}, {[]int{2}, api.OK}, {[]int{0, 1, 2}, api.OK}, {[]int{0, 2}, api.OK},
		{[]int{3}, api.ErrMissing}, {[]int{-1}, api.ErrMissing}, {[]int{1, math.MinInt}, api.ErrMissing},
		{[]int{1, 1}, api.ErrOrder}, {[]int{1, 0}, api.ErrOrder}, {[]int{0, 2, 1}, api.ErrOrder},
		{[]int{1, 1, 3}, api.ErrOrder}, {[]int{3, 1, 1}, api.ErrMissing}, {[]int{1, -1}, api.ErrMissing},
	} {
		expect(t, "Numbers", check.Numbers(x.l, 3), x.want)
	}
	for n, want := range []api.Errno{api.OK, api.OK, api.ErrOrder, api.ErrOrder, api.OK} {
		expect(t, "Ascends", check.Ascends([]int{-1, 5, 5, 4, math.MaxInt}, n), want)
	}
}

func TestElementsLieInTheWedge(t *testing.T) {
	for _, x := range []struct {
		l    []api.Spot
		n    int
		want api.Errno
	}{
		{[]api.Spot{{Z: -1}, {X: 100000, Z: -100000}}, 0, api.OK},
		{make([]api.Spot, 0), 0, api.ErrShape},
		{make([]api.Spot, 17), 0, api.ErrLarge},
		{make([]api.Spot, 16), 0, api.ErrKind},
		{[]api.Spot{{Z: -1}, {Z: 0}, {X: 100001}}, 1, api.ErrKind},
		{[]api.Spot{{Z: -1}, {X: 100001}, {Z: 0}}, 1, api.ErrRange},
		{[]api.Spot{{Z: -100001}}, 0, api.ErrRange},
	} {
		n, e := check.Elements(x.l)
		if n != x.n || e != x.want {
			t.Errorf("%v: %d, error %d", x.l, n, e)
		}
	}
}

func TestFractionsAreInLowestTerms(t *testing.T) {
	for _, x := range []struct {
		f    api.Frac
		want api.Errno
	}{
		{api.Frac{Num: 3, Den: 2}, api.OK},
		{api.Frac{Num: -3, Den: 2}, api.OK},
		{api.Frac{Num: 0, Den: 1}, api.OK},
		{api.Frac{Num: math.MinInt, Den: 1}, api.OK},
		{api.Frac{Num: math.MinInt, Den: math.MaxInt}, api.OK},
		{api.Frac{Num: math.MinInt, Den: 6}, api.ErrForm},
		{api.Frac{Num: 0, Den: 2}, api.ErrForm},
		{api.Frac{Num: 6, Den: 4}, api.ErrForm},
		{api.Frac{Num: -6, Den: 4}, api.ErrForm},
		{api.Frac{Num: 1, Den: 0}, api.ErrForm},
		{api.Frac{Num: 0, Den: 0}, api.ErrForm},
		{api.Frac{Num: 3, Den: -2}, api.ErrForm},
		{api.Frac{Num: -1, Den: math.MinInt}, api.ErrForm},
	} {
		expect(t, "Lowest", check.Lowest(x.f), x.want)
	}
}

func TestRatiosAreNotBelow0(t *testing.T) {
	for _, x := range []struct {
		f    api.Frac
		want api.Errno
	}{
		{api.Frac{Num: 0, Den: 1}, api.OK},
		{api.Frac{Num: 9, Den: 10}, api.OK},
		{api.Frac{Num: 10, Den: 9}, api.OK},
		{api.Frac{Num: -1, Den: 10}, api.ErrRange},
		{api.Frac{Num: 11, Den: 10}, api.ErrRange},
		{api.Frac{Num: 10, Den: 11}, api.ErrRange},
		{api.Frac{Num: math.MinInt, Den: 1}, api.ErrRange},
		{api.Frac{Num: 1, Den: math.MaxInt}, api.ErrRange},
		{api.Frac{Num: 0, Den: 0}, api.ErrForm},
		{api.Frac{Num: 22, Den: 20}, api.ErrForm},
		{api.Frac{Num: -2, Den: 2}, api.ErrForm},
		{api.Frac{Num: 1, Den: -1}, api.ErrForm},
	} {
		expect(t, "Ratio", check.Ratio(x.f, 10), x.want)
	}
}
