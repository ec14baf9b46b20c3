package tune_test

import (
	"math/big"
	"slices"
	"testing"

	"couplant/api"
	"couplant/tune"
)

// P6.3

func TestCheckArcs(t *testing.T) {
	arc := func(radius, lo, hi int) api.TuneArc { return api.TuneArc{Radius: radius, Time: from(lo, hi)} }
	for _, x := range []struct {
		l    []api.TuneArc
		n    int
		want api.Errno
	}{
		{block(), 0, api.OK},
		{bent(), 0, api.OK},
		{[]api.TuneArc{arc(1, 0, 0), arc(100000, 1000000000000, 1000000000000)}, 0, api.OK},
		{[]api.TuneArc{arc(1, 0, 1000000000000), arc(2, 5, 5)}, 0, api.OK},
		{nil, 0, api.ErrShape},
		{[]api.TuneArc{}, 0, api.ErrShape},
		{[]api.TuneArc{arc(1, 1, 1)}, 0, api.ErrShape},
		{[]api.TuneArc{arc(0, 1, 0)}, 0, api.ErrShape},
		{make([]api.TuneArc, 13), 0, api.ErrLarge},
		{make([]api.TuneArc, 12), 0, api.ErrRange},
		{[]api.TuneArc{arc(0, 0, 0), arc(1, 0, 0)}, 0, api.ErrRange},
		{[]api.TuneArc{arc(1, 0, 0), arc(100001, 0, 0)}, 1, api.ErrRange},
		{[]api.TuneArc{arc(1, 0, 0), arc(-huge-1, 0, 0)}, 1, api.ErrRange},
		{[]api.TuneArc{arc(1, -1, 0), arc(2, 0, 0)}, 0, api.ErrRange},
		{[]api.TuneArc{arc(1, 0, 0), arc(2, 0, 1000000000001)}, 1, api.ErrRange},
		{[]api.TuneArc{arc(1, 0, 0), arc(2, huge, -huge-1)}, 1, api.ErrRange},
		{[]api.TuneArc{arc(1, 0, 0), arc(2, 0, -1)}, 1, api.ErrRange},
		{[]api.TuneArc{arc(1, 0, 0), arc(1, 1, -1)}, 1, api.ErrRange},
		{[]api.TuneArc{arc(1, 5, 4), arc(2, 0, 0)}, 0, api.ErrOrder},
		{[]api.TuneArc{arc(1, 0, 0), arc(2, 1, 0)}, 1, api.ErrOrder},
		{[]api.TuneArc{arc(1, 0, 0), arc(1, 0, 0)}, 1, api.ErrOrder},
		{[]api.TuneArc{arc(1, 0, 0), arc(3, 0, 0), arc(2, 0, 0)}, 2, api.ErrOrder},
		{[]api.TuneArc{arc(1, 0, 0), arc(1, 0, 0), arc(0, 0, 0)}, 1, api.ErrOrder},
	} {
		n, e := tune.CheckArcs(x.l)
		expect(t, "CheckArcs", n, e, x.n, x.want)
	}
	for count, want := range map[int]api.Errno{2: api.OK, 12: api.OK, 13: api.ErrLarge} {
		var n numbers
		_, e := tune.CheckArcs(n.arcs(count))
		expect(t, "CheckArcs of many", count, e, count, want)
	}
}

func TestRangesOfExamples(t *testing.T) {
	expectAlike(t, "SpeedRange", must(tune.SpeedRange(block())), from(3333, 3334))
	expectAlike(t, "DelayRange", must(tune.DelayRange(block())), from(5000000))
	r, e := tune.SpeedRange(bent())
	refused(t, "SpeedRange of what contradicts", r, e, api.ErrNone)
	r, e = tune.DelayRange(bent())
	refused(t, "DelayRange of what contradicts", r, e, api.ErrNone)
}

// The arcs are 10000000 to 20000000 apart for 2 times 2500.
func TestRangesOfWideArcs(t *testing.T) {
	l := block()
	l[0].Time, l[1].Time = from(19000000, 21000000), from(31000000, 39000000)
	expectAlike(t, "SpeedRange", must(tune.SpeedRange(l)), from(2500, 5000))
	expectAlike(t, "DelayRange", must(tune.DelayRange(l)), from(19000000-20000000, 21000000-10000000))
	// A third one is 30000000 to 32000000 for 2 times 5000 away from the first.
	l = append(l, api.TuneArc{Radius: 7500, Time: from(51000000)})
	expectAlike(t, "SpeedRange of three", must(tune.SpeedRange(l)), from(3125, 3334))
	expectAlike(t, "DelayRange of three", must(tune.DelayRange(l)), from(3000000, 6000000))
}

// More exactly: delays may be below 0 in results.
func TestDelaysBelow0(t *testing.T) {
	l := []api.TuneArc{{Radius: 2, Time: from(5)}, {Radius: 5, Time: from(15)}}
	expectAlike(t, "DelayRange", must(tune.DelayRange(l)), from(-2, -1))
	expectAlike(t, "SpeedRange", must(tune.SpeedRange(l)), from(6000000))
	l = []api.TuneArc{{Radius: 99999, Time: from(0)}, {Radius: 100000, Time: from(1000000000000)}}
	expectAlike(t, "DelayRange of the greatest numbers", must(tune.DelayRange(l)), from(-99999000000000000))
	expectAlike(t, "SpeedRange of the greatest numbers", must(tune.SpeedRange(l)), from(0, 1))
	l = []api.TuneArc{{Radius: 1, Time: from(0)}, {Radius: 100000, Time: from(1)}}
	expectAlike(t, "SpeedRange of the least times", must(tune.SpeedRange(l)), from(2*99999*10000000))
}

// More exactly: the speed of a slowness that goes to 0 has no end.
func TestSlownessesOf0OrLess(t *testing.T) {
	for _, x := range []struct {
		first, second api.Range
		want          api.Errno
		delays        api.Range
	}{
		{from(0, 9), from(5, 9), api.ErrZero, from(-9, 13)},
		// The slowness 0 alone, slownesses below 0 alone, and from 0 on.
		{from(7), from(7), api.ErrZero, from(7)},
		{from(9), from(5, 7), api.ErrZero, from(11, 13)},
		{from(4, 7), from(7, 9), api.ErrZero, from(-1, 7)},
		{from(4, 7), from(8, 9), api.OK, from(-1, 6)},
	} {
		l := []api.TuneArc{{Radius: 1, Time: x.first}, {Radius: 2, Time: x.second}}
		r, e := tune.SpeedRange(l)
		if x.want == api.OK {
			expect(t, "SpeedRange", r, e, from(4000000, 20000000), api.OK)
		} else {
			refused(t, "SpeedRange", r, e, x.want)
		}
		expectAlike(t, "DelayRange", must(tune.DelayRange(l)), x.delays)
	}
	// What is not possible is told ahead of what is 0.
	falling := []api.TuneArc{{Radius: 1, Time: from(9)}, {Radius: 2, Time: from(9)}, {Radius: 3, Time: from(5)}}
	r, e := tune.SpeedRange(falling)
	refused(t, "SpeedRange", r, e, api.ErrNone)
}

// expectRanges compares the ranges of arcs with their definitions, and returns
// which errors they have.
func expectRanges(t *testing.T, l []api.TuneArc) (ofSpeeds, ofDelays api.Errno) {
	t.Helper()
	least, greatest := slownesses(l)
	speeds, e := tune.SpeedRange(l)
	delays, f := tune.DelayRange(l)
	if least.Cmp(greatest) > 0 {
		refused(t, "SpeedRange", speeds, e, api.ErrNone)
		refused(t, "DelayRange", delays, f, api.ErrNone)
		return e, f
	}
	// Delays fall where slownesses rise.
	lowest, _ := delaysOf(l, greatest)
	_, highest := delaysOf(l, least)
	expect(t, "DelayRange", delays, f, from(down(lowest), up(highest)), api.OK)
	if least.Sign() <= 0 {
		refused(t, "SpeedRange", speeds, e, api.ErrZero)
		return e, f
	}
	scale := ratio(10000000, 1)
	expect(t, "SpeedRange", speeds, e, from(down(quotient(scale, greatest)), up(quotient(scale, least))), api.OK)
	return e, f
}

func TestRangesAreAsDefined(t *testing.T) {
	var n numbers = 4
	counts := map[api.Errno]int{}
	for range 3000 {
		e, _ := expectRanges(t, n.arcs(n.from(2, 5)))
		counts[e]++
	}
	for range 500 {
		expectRanges(t, n.wideArcs(n.from(2, 12)))
	}
	for _, e := range []api.Errno{api.OK, api.ErrNone, api.ErrZero} {
		if counts[e] < 200 {
			t.Errorf("the error %d is told only %d times", e, counts[e])
		}
	}
}

func TestContradictionOfExamples(t *testing.T) {
	expectAlike(t, "Contradiction", must(tune.Contradiction(bent())), [3]int{0, 1, 2})
	// At 2000 the line of least ends is at 25, that of greatest ends at 27.
	l := bent()
	for _, x := range []struct {
		middle api.Range
		want   api.Errno
	}{
		{from(0, 24), api.OK}, {from(0, 25), api.ErrNone}, {from(26, 26), api.ErrNone},
		{from(27, 99), api.ErrNone}, {from(28, 99), api.OK},
	} {
		l[1].Time = x.middle
		three, e := tune.Contradiction(l)
		if x.want == api.OK {
			expect(t, "Contradiction", three, e, [3]int{0, 1, 2}, api.OK)
		} else {
			refused(t, "Contradiction", three, e, x.want)
		}
	}
}

// More exactly: arcs of two never contradict.
func TestTwoArcsNeverContradict(t *testing.T) {
	var n numbers = 5
	for range 300 {
		three, e := tune.Contradiction(n.arcs(2))
		refused(t, "Contradiction of two arcs", three, e, api.ErrNone)
		three, e = tune.Contradiction(n.wideArcs(2))
		refused(t, "Contradiction of two arcs", three, e, api.ErrNone)
	}
}

// contradictionOf returns the first three arcs that contradict, by definition.
func contradictionOf(l []api.TuneArc) ([3]int, api.Errno) {
	var all [][3]int
	for i, a := range l {
		for j, b := range l {
			for k, c := range l {
				if i >= j || j >= k {
					continue
				}
				upper := lineOf(a.Radius, a.Time.Hi, c.Radius, c.Time.Hi, b.Radius)
				lower := lineOf(a.Radius, a.Time.Lo, c.Radius, c.Time.Lo, b.Radius)
				if upper.Cmp(ratio(b.Time.Lo, 1)) < 0 || lower.Cmp(ratio(b.Time.Hi, 1)) > 0 {
					all = append(all, [3]int{i, j, k})
				}
			}
		}
	}
	if len(all) == 0 {
		return [3]int{}, api.ErrNone
	}
	return slices.MinFunc(all, func(a, b [3]int) int { return slices.Compare(a[:], b[:]) }), api.OK
}

func TestContradictionIsAsDefined(t *testing.T) {
	var n numbers = 6
	for range 2000 {
		for _, l := range [][]api.TuneArc{n.arcs(n.from(2, 6)), n.wideArcs(n.from(3, 12))} {
			three, e := tune.Contradiction(l)
			want, f := contradictionOf(l)
			expect(t, "Contradiction", three, e, want, f)
		}
	}
}

func TestExplains(t *testing.T) {
	l := block()
	expectAlike(t, "nearly", must(tune.Explains(l, 5000000, 3333)), false)
	// The slowness of the speed 4000 is 2500: 12500000 for 2 times 2500.
	l[0].Time, l[1].Time = from(12500100, 12500200), from(25000150, 25000180)
	for delay, want := range map[int]bool{149: false, 150: true, 165: true, 180: true, 181: false, -150: false, 0: false} {
		expectAlike(t, "Explains", must(tune.Explains(l, delay, 4000)), want)
	}
	l[1].Time = from(25000000, 26000000)
	for delay, want := range map[int]bool{99: false, 100: true, 200: true, 201: false} {
		expectAlike(t, "Explains", must(tune.Explains(l, delay, 4000)), want)
	}
	expectAlike(t, "a speed that is not the one", must(tune.Explains(l, 150, 3999)), false)
	expectAlike(t, "a speed that is not the one", must(tune.Explains(l, 150, 4001)), false)
}

func TestExplainsIsAsDefined(t *testing.T) {
	var n numbers = 7
	explained := 0
	for range 3000 {
		l, delay, speed := n.explained()
		want := true
		for _, a := range l {
			time := sum(ratio(delay, 1), product(ratio(2*a.Radius, 1), ratio(10000000, speed)))
			want = want && time.Cmp(ratio(a.Time.Lo, 1)) >= 0 && time.Cmp(ratio(a.Time.Hi, 1)) <= 0
		}
		expectAlike(t, "Explains", must(tune.Explains(l, delay, speed)), want)
		if want {
			explained++
		}
	}
	if explained < 500 || explained > 2500 {
		t.Errorf("%d are explained", explained)
	}
}

// explained returns arcs, and a delay and a speed that explain them often.
func (n *numbers) explained() (l []api.TuneArc, delay, speed int) {
	delay, speed = n.from(-1000000, 1000000), n.from(500, 10000)
	for _, radius := range n.ascending(n.from(2, 4), n.from(1000, 2000), 9000) {
		at := down(sum(ratio(delay, 1), ratio(2*radius*10000000, speed)))
		l = append(l, api.TuneArc{Radius: radius, Time: from(max(0, at+n.from(-20, 2)), max(0, at+n.from(2, 20)))})
		if n.from(0, 7) == 0 {
			last := &l[len(l)-1]
			last.Time = from(at+n.from(0, 1), at+1)
		}
	}
	return l, delay, speed
}

func TestErrorsOfArcsComeFirst(t *testing.T) {
	for want, l := range wrongArcs() {
		r, e := tune.SpeedRange(l)
		refused(t, "SpeedRange", r, e, want)
		r, e = tune.DelayRange(l)
		refused(t, "DelayRange", r, e, want)
		three, e := tune.Contradiction(l)
		refused(t, "Contradiction", three, e, want)
		for _, delay := range []int{0, huge} {
			for _, speed := range []int{500, 0} {
				isSo, e := tune.Explains(l, delay, speed)
				refused(t, "Explains", isSo, e, want)
			}
		}
	}
}

func TestErrorsOfDelaysAndSpeeds(t *testing.T) {
	wide := []api.TuneArc{{Radius: 1, Time: from(0, 1000000000000)}, {Radius: 2, Time: from(0, 1000000000000)}}
	for _, x := range []struct {
		delay, speed int
		want         api.Errno
	}{
		{1000000000001, 500, api.ErrRange},
		{-1000000000001, 500, api.ErrRange},
		{huge, 500, api.ErrRange},
		{-huge - 1, 500, api.ErrRange},
		{0, 499, api.ErrRange},
		{0, 10001, api.ErrRange},
		{0, 0, api.ErrRange},
		{0, huge, api.ErrRange},
		{0, -huge - 1, api.ErrRange},
	} {
		isSo, e := tune.Explains(wide, x.delay, x.speed)
		refused(t, "Explains", isSo, e, x.want)
	}
	for _, x := range []struct {
		delay, speed int
		want         bool
	}{
		{0, 500, true}, {0, 10000, true}, {-40000, 500, true}, {-40001, 500, false},
		{1000000000000, 10000, false}, {-1000000000000, 10000, false}, {999999996000, 10000, true}, {999999996001, 10000, false},
	} {
		expectAlike(t, "Explains", must(tune.Explains(wide, x.delay, x.speed)), x.want)
	}
}

// P6.9

// What explains arcs lies in their ranges.
func TestWhatExplainsLiesInTheRanges(t *testing.T) {
	var n numbers = 8
	explained := 0
	for range 2000 {
		l, delay, speed := n.explained()
		if !must(tune.Explains(l, delay, speed)) {
			continue
		}
		explained++
		if r := must(tune.DelayRange(l)); delay < r.Lo || delay > r.Hi {
			t.Errorf("the delay %d is not in %v of %v", delay, r, l)
		}
		r, e := tune.SpeedRange(l)
		if e != api.ErrZero && (e != api.OK || speed < r.Lo || speed > r.Hi) {
			t.Errorf("the speed %d is not in %v of %v, error %d", speed, r, l, e)
		}
	}
	if explained < 500 {
		t.Errorf("only %d are explained", explained)
	}
}

// What lies outside of the ranges explains no arcs.
func TestWhatLiesOutsideOfTheRangesDoesNotExplain(t *testing.T) {
	var n numbers = 9
	for range 300 {
		l, _, _ := n.explained()
		delays, e := tune.DelayRange(l)
		speeds, f := tune.SpeedRange(l)
		if e != api.OK || f != api.OK {
			continue
		}
		for _, speed := range []int{speeds.Lo - 1, speeds.Hi + 1} {
			least, greatest := delaysOf(l, ratio(10000000, speed))
			if least.Cmp(greatest) <= 0 {
				t.Errorf("the speed %d explains %v", speed, l)
			}
		}
		for _, delay := range []int{delays.Lo - 1, delays.Hi + 1} {
			least, greatest := slownessesOf(l, delay)
			if least.Cmp(greatest) <= 0 {
				t.Errorf("the delay %d explains %v", delay, l)
			}
		}
	}
}

// slownessesOf returns the ends of the slownesses that explain arcs with a
// delay.
func slownessesOf(l []api.TuneArc, delay int) (least, greatest *big.Rat) {
	for _, a := range l {
		lo, hi := ratio(a.Time.Lo-delay, 2*a.Radius), ratio(a.Time.Hi-delay, 2*a.Radius)
		if least == nil || lo.Cmp(least) > 0 {
			least = lo
		}
		if greatest == nil || hi.Cmp(greatest) < 0 {
			greatest = hi
		}
	}
	return least, greatest
}

// A slowness is possible just if no three arcs contradict.
func TestASlownessIsPossibleUnlessThreeArcsContradict(t *testing.T) {
	var n numbers = 10
	counts := map[api.Errno]int{}
	for range 3000 {
		l := n.arcs(n.from(2, 6))
		_, e := tune.DelayRange(l)
		_, f := tune.Contradiction(l)
		if (e == api.OK) != (f == api.ErrNone) {
			t.Errorf("%v: a slowness has the error %d, a contradiction %d", l, e, f)
		}
		counts[e]++
	}
	if counts[api.OK] < 500 || counts[api.ErrNone] < 500 {
		t.Errorf("%v", counts)
	}
}
