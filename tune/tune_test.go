package tune_test

import (
	"slices"
	"testing"

	"couplant/api"
	"couplant/tune"
)

// P6.1

func TestCheckTable(t *testing.T) {
	for _, x := range []struct {
		l    []api.TuneRow
		n    int
		want api.Errno
	}{
		{line(), 0, api.OK},
		{[]api.TuneRow{{Depth: 0, Echo: 1}}, 0, api.OK},
		{[]api.TuneRow{{Depth: 100000, Echo: 1000000}}, 0, api.OK},
		{[]api.TuneRow{{Depth: 0, Echo: 1}, {Depth: 1, Echo: 1}, {Depth: 100000, Echo: 5}}, 0, api.OK},
		{nil, 0, api.ErrShape},
		{[]api.TuneRow{}, 0, api.ErrShape},
		{make([]api.TuneRow, 21), 0, api.ErrLarge},
		{make([]api.TuneRow, 20), 0, api.ErrRange},
		{[]api.TuneRow{{Depth: -1, Echo: 1}}, 0, api.ErrRange},
		{[]api.TuneRow{{Depth: 100001, Echo: 1}}, 0, api.ErrRange},
		{[]api.TuneRow{{Depth: huge, Echo: 1}}, 0, api.ErrRange},
		{[]api.TuneRow{{Depth: 5, Echo: 0}}, 0, api.ErrRange},
		{[]api.TuneRow{{Depth: 5, Echo: 1000001}}, 0, api.ErrRange},
		{[]api.TuneRow{{Depth: 5, Echo: -huge - 1}}, 0, api.ErrRange},
		{[]api.TuneRow{{Depth: 5, Echo: 1}, {Depth: 5, Echo: 1}}, 1, api.ErrOrder},
		{[]api.TuneRow{{Depth: 5, Echo: 1}, {Depth: 7, Echo: 1}, {Depth: 6, Echo: 1}}, 2, api.ErrOrder},
		// The first row with an error is told, and its first error.
		{[]api.TuneRow{{Depth: 5, Echo: 1}, {Depth: 5, Echo: 1}, {Depth: -1, Echo: 1}}, 1, api.ErrOrder},
		{[]api.TuneRow{{Depth: 5, Echo: 1}, {Depth: 5, Echo: 0}}, 1, api.ErrRange},
		{[]api.TuneRow{{Depth: 5, Echo: 1}, {Depth: -1, Echo: 1}}, 1, api.ErrRange},
	} {
		n, e := tune.CheckTable(x.l)
		expect(t, "CheckTable", n, e, x.n, x.want)
	}
	for rows, want := range map[int]api.Errno{20: api.OK, 21: api.ErrLarge} {
		var n numbers
		_, e := tune.CheckTable(n.table(rows, 9, 9))
		expect(t, "CheckTable of many rows", rows, e, rows, want)
	}
}

func TestEchoAt(t *testing.T) {
	for depth, want := range map[int]api.Range{
		1000: from(800), 1500: from(600), 1501: from(599, 600), 1001: from(799, 800), 1002: from(799, 800),
		1005: from(798), 1999: from(400, 401), 2000: from(400),
	} {
		expectAlike(t, "EchoAt", must(tune.EchoAt(line(), depth)), want)
	}
	expectAlike(t, "EchoAt of four", must(tune.EchoAt(four(), 25)), from(75, 76))
	expectAlike(t, "EchoAt of rising echoes", must(tune.EchoAt([]api.TuneRow{{Depth: 0, Echo: 1}, {Depth: 3, Echo: 2}}, 1)), from(1, 2))
	for depth, want := range map[int]api.Errno{
		999: api.ErrNone, 2001: api.ErrNone, 0: api.ErrNone, 100000: api.ErrNone,
		-1: api.ErrRange, 100001: api.ErrRange, huge: api.ErrRange, -huge - 1: api.ErrRange,
	} {
		r, e := tune.EchoAt(line(), depth)
		refused(t, "EchoAt", r, e, want)
	}
}

// More exactly: a table of one row tells the echo at its depth alone.
func TestEchoOfOneRow(t *testing.T) {
	for _, depth := range []int{0, 7, 100000} {
		l := []api.TuneRow{{Depth: depth, Echo: 30}}
		expectAlike(t, "EchoAt of one row", must(tune.EchoAt(l, depth)), from(30))
		expectAlike(t, "GainAt of one row", must(tune.GainAt(l, depth, 60)), from(2000))
		for _, other := range []int{depth - 1, depth + 1} {
			r, e := tune.EchoAt(l, other)
			want := api.ErrNone
			if other < 0 || other > 100000 {
				want = api.ErrRange
			}
			refused(t, "EchoAt beside one row", r, e, want)
		}
	}
}

func TestGainAt(t *testing.T) {
	expectAlike(t, "GainAt", must(tune.GainAt(line(), 1500, 600)), from(1000))
	// The echo at 1501 is 599.6, and is not rounded.
	expectAlike(t, "GainAt between", must(tune.GainAt(line(), 1501, 5996)), from(10000))
	expectAlike(t, "GainAt, rounded", must(tune.GainAt(line(), 1501, 600)), from(1000, 1001))
	expectAlike(t, "GainAt of 1", must(tune.GainAt(line(), 1000, 1)), from(1, 2))
	least := []api.TuneRow{{Depth: 0, Echo: 1}}
	expectAlike(t, "GainAt of the least echo", must(tune.GainAt(least, 0, 1000000)), from(1000000000))
}

func TestEqualised(t *testing.T) {
	equalised := func(l []api.TuneRow, depth, echo, target int) api.Range {
		return must(tune.Equalised(l, api.TuneRow{Depth: depth, Echo: echo}, target))
	}
	expectAlike(t, "Equalised", equalised(line(), 2000, 300, 800), from(600))
	expectAlike(t, "Equalised between", equalised(line(), 1501, 5996, 7), from(70))
	expectAlike(t, "Equalised, rounded", equalised(line(), 1501, 600, 800), from(800, 801))
	least := []api.TuneRow{{Depth: 0, Echo: 1}}
	expectAlike(t, "Equalised of the least echo", equalised(least, 0, 1000000, 1000000), from(1000000000000))
}

func TestEchoesAndGainsAreAsDefined(t *testing.T) {
	var n numbers = 1
	for range 2000 {
		l := n.table(n.from(1, 6), 9, 40)
		if n.from(0, 3) == 0 {
			l = n.table(n.from(2, 20), 5000, 1000000)
		}
		depth := n.from(l[0].Depth, l[len(l)-1].Depth)
		echo := echoOf(l, depth)
		x := api.TuneRow{Depth: depth, Echo: n.from(1, 1000000)}
		target := n.from(1, 1000000)
		expectAlike(t, "EchoAt", must(tune.EchoAt(l, depth)), from(down(echo), up(echo)))
		gain := quotient(ratio(1000*target, 1), echo)
		expectAlike(t, "GainAt", must(tune.GainAt(l, depth, target)), from(down(gain), up(gain)))
		equal := quotient(ratio(x.Echo*target, 1), echo)
		expectAlike(t, "Equalised", must(tune.Equalised(l, x, target)), from(down(equal), up(equal)))
	}
}

func TestErrorsOfTablesComeFirst(t *testing.T) {
	for want, l := range wrongTables() {
		for _, depth := range []int{1000, 5, -1} {
			r, e := tune.EchoAt(l, depth)
			refused(t, "EchoAt", r, e, want)
			r, e = tune.GainAt(l, depth, 0)
			refused(t, "GainAt", r, e, want)
			r, e = tune.Equalised(l, api.TuneRow{Depth: depth}, 0)
			refused(t, "Equalised", r, e, want)
			rows, e := tune.Thinned(l, depth)
			refused(t, "Thinned", rows, e, want)
		}
	}
}

func TestErrorsOfDepthsAndEchoes(t *testing.T) {
	for _, x := range []struct {
		depth, echo, target int
		want                api.Errno
	}{
		{-1, 0, 0, api.ErrRange},
		{100001, 1, 1, api.ErrRange},
		{-huge - 1, 1, 1, api.ErrRange},
		{999, 0, 0, api.ErrNone},
		{2001, 1, 0, api.ErrNone},
		{2001, 0, 1, api.ErrNone},
		{2000, 0, 1, api.ErrRange},
		{2000, 1000001, 1, api.ErrRange},
		{2000, huge, 1, api.ErrRange},
		{2000, 1, 0, api.ErrRange},
		{2000, 1, -1, api.ErrRange},
		{2000, 1, 1000001, api.ErrRange},
		{2000, 1, huge, api.ErrRange},
		{1000, 1, -huge - 1, api.ErrRange},
	} {
		r, e := tune.Equalised(line(), api.TuneRow{Depth: x.depth, Echo: x.echo}, x.target)
		refused(t, "Equalised", r, e, x.want)
		if x.target != 1 || x.want == api.ErrNone {
			r, e = tune.GainAt(line(), x.depth, x.target)
			refused(t, "GainAt", r, e, x.want)
		}
	}
}

// P6.2

func TestThinned(t *testing.T) {
	expectAlike(t, "Thinned", must(tune.Thinned(four(), 1)), []int{0, 3})
	expectAlike(t, "Thinned without slack", must(tune.Thinned(four(), 0)), []int{0, 1, 2, 3})
	for _, slack := range []int{0, 1, 1000000} {
		expectAlike(t, "Thinned of two rows", must(tune.Thinned(line(), slack)), []int{0, 1})
		expectAlike(t, "Thinned of one row", must(tune.Thinned(line()[1:], slack)), []int{0})
	}
	straight := []api.TuneRow{{Depth: 0, Echo: 10}, {Depth: 10, Echo: 20}, {Depth: 15, Echo: 25}, {Depth: 30, Echo: 40}}
	expectAlike(t, "Thinned of a line", must(tune.Thinned(straight, 0)), []int{0, 3})
}

// The echo at 15 of the rows 0 and 2 alone is 90.5.
func TestSlackIsNotRounded(t *testing.T) {
	l := []api.TuneRow{{Depth: 0, Echo: 100}, {Depth: 15, Echo: 90}, {Depth: 30, Echo: 81}}
	expectAlike(t, "Thinned without slack", must(tune.Thinned(l, 0)), []int{0, 1, 2})
	expectAlike(t, "Thinned", must(tune.Thinned(l, 1)), []int{0, 2})
	l[1].Echo = 89
	expectAlike(t, "Thinned of one and a half", must(tune.Thinned(l, 1)), []int{0, 1, 2})
	expectAlike(t, "Thinned of one and a half", must(tune.Thinned(l, 2)), []int{0, 2})
	l[2].Echo = 80
	expectAlike(t, "Thinned of just one", must(tune.Thinned(l, 1)), []int{0, 2})
}

// Either row in the middle does, and so does either one of two pairs.
func TestTheFirstOfTheFewestRowsIsTold(t *testing.T) {
	l := []api.TuneRow{{Depth: 0, Echo: 10}, {Depth: 10, Echo: 20}, {Depth: 11, Echo: 20}, {Depth: 21, Echo: 10}}
	expectAlike(t, "Thinned", must(tune.Thinned(l, 1)), []int{0, 1, 3})
	l = append(l, api.TuneRow{Depth: 31, Echo: 20}, api.TuneRow{Depth: 32, Echo: 20}, api.TuneRow{Depth: 42, Echo: 10})
	expectAlike(t, "Thinned", must(tune.Thinned(l, 1)), []int{0, 1, 3, 4, 6})
}

func TestErrorsOfSlacks(t *testing.T) {
	for _, slack := range []int{-1, 1000001, huge, -huge - 1} {
		rows, e := tune.Thinned(four(), slack)
		refused(t, "Thinned", rows, e, api.ErrRange)
	}
	expectAlike(t, "Thinned with the greatest slack", must(tune.Thinned(four(), 1000000)), []int{0, 3})
}

// isWithin returns whether the table of some rows alone is within a slack, by
// definition.
func isWithin(l []api.TuneRow, rows []int, slack int) bool {
	var thin []api.TuneRow
	for _, row := range rows {
		thin = append(thin, l[row])
	}
	for _, r := range l {
		far := size(difference(echoOf(thin, r.Depth), ratio(r.Echo, 1)))
		if far.Cmp(ratio(slack, 1)) > 0 {
			return false
		}
	}
	return true
}

// thinnedOf tries all sets of rows.
func thinnedOf(l []api.TuneRow, slack int) []int {
	var best []int
	for set := range 1 << len(l) {
		var rows []int
		for row := range l {
			if set>>row&1 == 1 || row == 0 || row == len(l)-1 {
				rows = append(rows, row)
			}
		}
		isBetter := best == nil || len(rows) < len(best) || len(rows) == len(best) && slices.Compare(rows, best) < 0
		if isBetter && isWithin(l, rows, slack) {
			best = rows
		}
	}
	return best
}

func TestThinnedIsAsDefined(t *testing.T) {
	var n numbers = 2
	for range 300 {
		l := n.table(n.from(1, 7), 4, 12)
		slack := n.from(0, 6)
		expectAlike(t, "Thinned", must(tune.Thinned(l, slack)), thinnedOf(l, slack))
	}
	// With the greatest numbers there are, no step of it is too large.
	l := []api.TuneRow{{Depth: 0, Echo: 1000000}, {Depth: 99999, Echo: 1}, {Depth: 100000, Echo: 1000000}}
	for _, slack := range []int{0, 999998, 999999, 1000000} {
		expectAlike(t, "Thinned", must(tune.Thinned(l, slack)), thinnedOf(l, slack))
	}
}

// Of twenty rows there are too many sets for the definition, but not for this.
func TestThinnedOfManyRows(t *testing.T) {
	var n numbers = 3
	for range 20 {
		l := n.table(20, 9, 100)
		slack := n.from(0, 60)
		rows := must(tune.Thinned(l, slack))
		if !isWithin(l, rows, slack) || rows[0] != 0 || rows[len(rows)-1] != 19 || !slices.IsSorted(rows) {
			t.Errorf("Thinned: %v of %v with %d", rows, l, slack)
		}
	}
}
