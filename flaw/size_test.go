package flaw_test

import (
	"fmt"
	"math/big"
	"testing"

	"couplant/api"
	"couplant/flaw"
)

// P8.4

func TestDrops(t *testing.T) {
	row := []api.FlawScan{scan(-3, -7, 5, 1, 4, 8, 5, 2)}
	for _, x := range []struct {
		l     []api.FlawScan
		peak  [3]int
		share api.Frac
		want  api.Range
	}{
		{column(), [3]int{2, 0, 0}, frac(1, 2), span(2, 4)},
		{column(), [3]int{2, 0, 0}, frac(5, 8), span(1, 3)},
		{column(), [3]int{2, 0, 0}, frac(501, 1000), span(1, 3)},
		// More exactly: a drop of one cell alone.
		{column(), [3]int{2, 0, 0}, frac(1), span(0, 2)},
		{column(), [3]int{2, 0, 0}, frac(626, 999), span(0, 2)},
		// The cell need not be the greatest one.
		{column(), [3]int{1, 0, 0}, frac(1), span(2, 4)},
		{column(), [3]int{3, 0, 0}, frac(1), span(1, 3)},
		{column(), [3]int{3, 0, 0}, frac(3, 4), span(2, 4)},
		{column(), [3]int{3, 0, 0}, frac(4, 5), span(2, 4)},
		{row, [3]int{-3, -5, 1}, frac(1, 2), span(2, 4)},
		{row, [3]int{-3, -6, 1}, frac(1), span(2, 4)},
		// What lies behind a lesser cell is not of the drop.
		{[]api.FlawScan{scan(0, 0, 1, 9, 1, 9, 1, 9)}, [3]int{2, 0, 0}, frac(1, 2), span(0, 2)},
		// Over several scans, in which a cell may be known twice.
		{[]api.FlawScan{scan(2, 5, 1, 8, 1, 0), scan(0, 5, 1, 3, 4), scan(3, 5, 1, 6)}, [3]int{2, 5, 0}, frac(1, 2), span(2, 4)},
		{[]api.FlawScan{scan(0, 0, 3, 0, 1, 0)}, [3]int{0, 1, 1}, frac(1, 1000), span(0, 2)},
		{[]api.FlawScan{scan(0, 0, 4, 0, 1000000000, 999999999, 998999999)}, [3]int{0, 1, 1}, frac(999, 1000), span(1, 3)},
	} {
		expectAlike(t, fmt.Sprint("DropRange of ", x.l, x.peak, x.share), must(flaw.DropRange(x.l, x.peak, x.share)), x.want)
	}
}

func TestDropsToTheEdgeOfWhatIsKnown(t *testing.T) {
	apart := []api.FlawScan{scan(0, 0, 1, 0, 8), scan(3, 0, 1, 8)}
	for _, x := range []struct {
		l     []api.FlawScan
		peak  [3]int
		share api.Frac
	}{
		{column(), [3]int{2, 0, 0}, frac(1, 8)},
		{column(), [3]int{2, 0, 0}, frac(1, 4)},
		{column(), [3]int{2, 0, 1}, frac(1, 2)},
		{column(), [3]int{0, 0, 0}, frac(1)},
		{column(), [3]int{4, 0, 0}, frac(1)},
		{six(), [3]int{0, 0, 1}, frac(1, 2)},
		{six(), [3]int{0, 2, 1}, frac(1, 2)},
		{six(), [3]int{1, 1, 0}, frac(1, 2)},
		{apart, [3]int{1, 0, 0}, frac(1, 2)},
	} {
		r, e := flaw.DropRange(x.l, x.peak, x.share)
		refused(t, fmt.Sprint("DropRange of ", x.l, x.peak, x.share), r, e, api.ErrGap)
	}
}

// ways is what DropRange is told.
type ways struct {
	l     []api.FlawScan
	peak  [3]int
	share api.Frac
}

func TestErrorsOfDropsInOrder(t *testing.T) {
	for want, l := range wrongScans() {
		r, e := flaw.DropRange(l, [3]int{0, 0, 2}, frac(0, 0))
		refused(t, "DropRange", r, e, want)
	}
	faults := []fault[ways]{
		{func(x *ways) { x.l = append(x.l, api.FlawScan{}) }, 0, api.ErrRange},
		{func(x *ways) { x.peak[2] = 2 }, 0, api.ErrKind},
		{func(x *ways) { x.share = frac(4, 2) }, 0, api.ErrForm},
		{func(x *ways) { x.share = frac(2) }, 0, api.ErrRange},
		{func(x *ways) { x.peak[1] = 1 }, 0, api.ErrMissing},
		{func(x *ways) { x.l[0].Data[2] = 0 }, 0, api.ErrZero},
		{func(x *ways) { x.l[0].Data[4] = 8 }, 0, api.ErrGap},
	}
	fresh := func() ways { return ways{column(), [3]int{2, 0, 0}, frac(1, 2)} }
	eachFault(fresh, faults, func(x ways, _ int, want api.Errno) {
		r, e := flaw.DropRange(x.l, x.peak, x.share)
		refused(t, fmt.Sprint("DropRange of ", x), r, e, want)
	})
	for _, along := range []int{-1, 2, huge, -huge - 1} {
		r, e := flaw.DropRange(column(), [3]int{9, 9, along}, frac(0, 0))
		refused(t, "DropRange", r, e, api.ErrKind)
	}
	for share, want := range map[api.Frac]api.Errno{
		{}: api.ErrForm, frac(1, 0): api.ErrForm, frac(2, 4): api.ErrForm, frac(0, 2): api.ErrForm, frac(-1, -2): api.ErrForm, frac(1, -2): api.ErrForm,
		frac(2000, 2002): api.ErrForm, frac(0): api.ErrRange, frac(-1): api.ErrRange, frac(-1, 2): api.ErrRange, frac(3, 2): api.ErrRange, frac(1001, 1000): api.ErrRange,
		frac(1, 1001): api.ErrRange, frac(1000, 1001): api.ErrRange, frac(huge): api.ErrRange, frac(1, huge): api.ErrRange, frac(-huge-1, 1): api.ErrRange,
	} {
		r, e := flaw.DropRange(column(), [3]int{9, 9, 0}, share)
		refused(t, fmt.Sprint("DropRange to ", share), r, e, want)
	}
	for _, peak := range [][3]int{{5, 0, 0}, {-1, 0, 0}, {0, 1, 0}, {huge, huge, 1}, {-huge - 1, 0, 1}} {
		r, e := flaw.DropRange(column(), peak, frac(1))
		refused(t, fmt.Sprint("DropRange from ", peak), r, e, api.ErrMissing)
	}
}

// dropOf returns the drop from a known cell, by definition.
func dropOf(x ways) (api.Range, api.Errno) {
	most, _ := amplitudeOf(x.l, [2]int{x.peak[0], x.peak[1]})
	if most == 0 {
		return api.Range{}, api.ErrZero
	}
	least := new(big.Rat).Mul(ratio(x.share.Num, x.share.Den), ratio(most, 1))
	from, to := 0, 0
	at := func(k int) (int, bool) {
		cell := [2]int{x.peak[0], x.peak[1]}
		cell[x.peak[2]] += k
		return amplitudeOf(x.l, cell)
	}
	isIn := func(k int) bool {
		amplitude, isKnown := at(k)
		return isKnown && ratio(amplitude, 1).Cmp(least) >= 0
	}
	for isIn(from - 1) {
		from--
	}
	for isIn(to + 1) {
		to++
	}
	_, isAhead := at(from - 1)
	_, isBehind := at(to + 1)
	if !isAhead || !isBehind {
		return api.Range{}, api.ErrGap
	}
	return span(to-from, to-from+2), api.OK
}

func TestDropsAreAsDefined(t *testing.T) {
	var n numbers = 5
	lengths := map[int]int{}
	for range 200 {
		l := n.scans(n.from(1, 4), []int{9, 1000000000}[n.from(0, 1)])
		for _, cell := range cellsOf(l, 0) {
			den := n.from(1, 20)
			x := ways{l, [3]int{cell[0], cell[1], n.from(0, 1)}, lowest(n.from(1, den), den)}
			r, e := flaw.DropRange(x.l, x.peak, x.share)
			want, f := dropOf(x)
			expect(t, fmt.Sprint("DropRange of ", x), r, e, want, f)
			if e == api.OK {
				lengths[r.Lo]++
			}
		}
	}
	if lengths[0] < 50 || lengths[1] < 50 || lengths[2] < 20 {
		t.Error(lengths)
	}
}

// lowest returns a fraction in lowest terms.
func lowest(num, den int) api.Frac {
	r := ratio(num, den)
	return frac(int(r.Num().Int64()), int(r.Denom().Int64()))
}

// P8.5

// tip is the tip of the chapter's fourth example.
func tip() api.FlawTip {
	return api.FlawTip{Time: span(10000000, 10000000), Offset: span(1800, 1800), Speed: 6000}
}

// tipOf returns a tip of times and offsets.
func tipOf(lo, hi, near, far, speed int) api.FlawTip {
	return api.FlawTip{Time: span(lo, hi), Offset: span(near, far), Speed: speed}
}

func TestTips(t *testing.T) {
	for _, x := range []struct {
		x    api.FlawTip
		want api.Range
	}{
		{tip(), span(2400, 2400)},
		{tipOf(10000000, 10000000, 0, 0, 6000), span(3000, 3000)},
		{tipOf(10000000, 10000000, 0, 1800, 6000), span(2400, 3000)},
		// Ways of 2999.99 and 3000.01: 2999 to 3001.
		{tipOf(9999967, 10000033, 0, 0, 6000), span(2999, 3001)},
		{tipOf(9999967, 10000033, 1800, 1800, 6000), span(2398, 2402)},
		{tipOf(10000000, 10000000, 3000, 3000, 6000), span(0, 0)},
		{tipOf(10000000, 10000000, 2999, 2999, 6000), span(77, 78)},
		// The least way is shorter than the greatest offset.
		{tipOf(9000000, 10000000, 1800, 2701, 6000), span(0, 2400)},
		{tipOf(9000000, 10000000, 3000, 100000, 6000), span(0, 0)},
		{tipOf(0, 1, 1, 1, 500), span(0, 0)},
		{tipOf(0, 0, 0, 0, 500), span(0, 0)},
		{tipOf(0, 1000000000000, 0, 100000, 10000), span(0, 500000000)},
		{tipOf(1000000000000, 1000000000000, 100000, 100000, 10000), span(499999989, 499999990)},
		{tipOf(999999999999, 999999999999, 0, 100000, 9999), span(499949988, 499950000)},
	} {
		expectAlike(t, fmt.Sprint("TipDepth of ", x.x), must(flaw.TipDepth(x.x)), x.want)
	}
	for _, x := range []api.FlawTip{
		tipOf(10000000, 10000000, 3001, 3001, 6000), tipOf(0, 10000000, 3001, 100000, 6000), tipOf(0, 0, 1, 1, 10000), tipOf(0, 40000, 2, 2, 500),
	} {
		r, e := flaw.TipDepth(x)
		refused(t, fmt.Sprint("TipDepth of ", x), r, e, api.ErrNone)
	}
}

func TestErrorsOfTipsInOrder(t *testing.T) {
	faults := []fault[api.FlawTip]{
		{func(x *api.FlawTip) { x.Time = span(0, -1) }, 0, api.ErrRange},
		{func(x *api.FlawTip) { x.Time = span(2, 1) }, 0, api.ErrOrder},
		{func(x *api.FlawTip) { x.Offset = span(0, -1) }, 0, api.ErrRange},
		{func(x *api.FlawTip) { x.Offset = span(100000, 99999) }, 0, api.ErrOrder},
		{func(x *api.FlawTip) { x.Speed = 499 }, 0, api.ErrRange},
		{func(x *api.FlawTip) { x.Offset = span(3001, 3001) }, 0, api.ErrNone},
	}
	eachFault(tip, faults, func(x api.FlawTip, _ int, want api.Errno) {
		r, e := flaw.TipDepth(x)
		refused(t, fmt.Sprint("TipDepth of ", x), r, e, want)
	})
	for _, x := range []api.FlawTip{
		tipOf(-1, 0, 0, 0, 6000), tipOf(0, 1000000000001, 0, 0, 6000), tipOf(1000000000001, 0, 0, 0, 6000), tipOf(-huge-1, huge, 0, 0, 6000), tipOf(huge, huge, 0, 0, 6000),
		tipOf(0, 0, -1, 0, 6000), tipOf(0, 0, 0, 100001, 6000), tipOf(0, 0, 100001, 0, 6000), tipOf(0, 0, -huge-1, huge, 6000),
		tipOf(0, 0, 0, 0, 10001), tipOf(0, 0, 0, 0, 0), tipOf(0, 0, 0, 0, -6000), tipOf(0, 0, 0, 0, huge), tipOf(0, 0, 0, 0, -huge-1),
	} {
		r, e := flaw.TipDepth(x)
		refused(t, fmt.Sprint("TipDepth of ", x), r, e, api.ErrRange)
	}
}

// whole returns a number that may be great.
func whole(n int) *big.Int { return big.NewInt(int64(n)) }

// square returns the square of a way less that of an offset.
func square(way, offset *big.Int) *big.Int {
	return new(big.Int).Sub(new(big.Int).Mul(way, way), new(big.Int).Mul(offset, offset))
}

// depthOf returns the depth of a tip, by definition.
func depthOf(x api.FlawTip) (api.Range, api.Errno) {
	parts := whole(20000000)
	least := new(big.Int).Div(new(big.Int).Mul(whole(x.Time.Lo), whole(x.Speed)), parts)
	most := new(big.Int).Mul(whole(x.Time.Hi), whole(x.Speed))
	most.Add(most, whole(19999999)).Div(most, parts)
	lesser, greater := square(least, whole(x.Offset.Hi)), square(most, whole(x.Offset.Lo))
	if greater.Sign() < 0 {
		return api.Range{}, api.ErrNone
	}
	if lesser.Sign() < 0 {
		lesser = whole(0)
	}
	up := new(big.Int).Sqrt(greater)
	if new(big.Int).Mul(up, up).Cmp(greater) < 0 {
		up.Add(up, whole(1))
	}
	return span(int(new(big.Int).Sqrt(lesser).Int64()), int(up.Int64())), api.OK
}

func TestTipsAreAsDefined(t *testing.T) {
	var n numbers = 6
	counts := map[api.Errno]int{}
	for range 20000 {
		most := []int{100000, 100000000, 1000000000000}[n.from(0, 2)]
		far := []int{10, 1000, 100000}[n.from(0, 2)]
		x := tipOf(n.from(0, most/1000)*1000+n.from(0, 9), 0, n.from(0, far), 0, n.from(500, 10000))
		x.Time.Lo = min(x.Time.Lo, most)
		x.Time.Hi = min(most, x.Time.Lo+n.from(0, most/10))
		x.Offset.Hi = min(100000, x.Offset.Lo+n.from(0, far/4))
		r, e := flaw.TipDepth(x)
		want, f := depthOf(x)
		expect(t, fmt.Sprint("TipDepth of ", x), r, e, want, f)
		counts[e]++
	}
	if counts[api.OK] < 2000 || counts[api.ErrNone] < 2000 {
		t.Error(counts)
	}
}

func TestHeights(t *testing.T) {
	const most = 1000000000
	for _, x := range []struct{ upper, lower, want api.Range }{
		{span(2400, 2410), span(2500, 2520), span(90, 120)},
		{span(10, 20), span(5, 10), span(0, 0)},
		{span(10, 20), span(5, 15), span(0, 5)},
		{span(10, 20), span(21, 30), span(1, 20)},
		{span(10, 20), span(20, 30), span(0, 20)},
		{span(-20, -10), span(-5, 0), span(5, 20)},
		{span(7, 7), span(7, 7), span(0, 0)},
		{span(-most, most), span(-most, most), span(0, 2*most)},
		{span(-most, -most), span(most, most), span(2*most, 2*most)},
	} {
		expectAlike(t, fmt.Sprint("HeightOf ", x.upper, x.lower), must(flaw.HeightOf(x.upper, x.lower)), x.want)
	}
}

func TestErrorsOfHeightsInOrder(t *testing.T) {
	const most = 1000000000
	right := span(0, 10)
	for _, x := range []struct {
		upper, lower api.Range
		want         api.Errno
	}{
		{span(0, most+1), right, api.ErrRange},
		{span(-most-1, 0), right, api.ErrRange},
		{span(most+1, 0), span(1, 0), api.ErrRange},
		{span(0, -most-1), right, api.ErrRange},
		{span(huge, -huge-1), right, api.ErrRange},
		{span(11, 10), span(0, most+1), api.ErrOrder},
		{right, span(0, most+1), api.ErrRange},
		{right, span(-most-1, 0), api.ErrRange},
		{span(most, most), span(-huge-1, 0), api.ErrRange},
		{right, span(huge, 0), api.ErrRange},
		{right, span(1, 0), api.ErrOrder},
		{right, span(-1, -2), api.ErrOrder},
		{right, span(-2, -1), api.ErrBreak},
		{span(10, 20), span(5, 9), api.ErrBreak},
		{span(most, most), span(-most, -most), api.ErrBreak},
	} {
		r, e := flaw.HeightOf(x.upper, x.lower)
		refused(t, fmt.Sprint("HeightOf ", x.upper, x.lower), r, e, x.want)
	}
}

// P8.10

// around returns a range, not below 0, that has a number.
func (n *numbers) around(number *big.Int, most int) api.Range {
	k := int(number.Int64())
	return span(max(0, k-n.from(0, most)), k+1+n.from(0, most))
}

// hit returns what is told of a tip at a depth and an offset: a time and an
// offset lie in the ranges. The time is that of the way there and back, rounded
// down, or the picosecond behind it.
func (n *numbers) hit(depth, offset, speed, slack int) api.FlawTip {
	// The square of the time is 4 10^14 (depth^2 + offset^2) / speed^2.
	way := new(big.Int).Add(new(big.Int).Mul(whole(depth), whole(depth)), new(big.Int).Mul(whole(offset), whole(offset)))
	way.Mul(way, whole(400000000000000)).Div(way, whole(speed*speed))
	x := api.FlawTip{Time: n.around(way.Sqrt(way), slack*1000), Offset: n.around(whole(offset), slack), Speed: speed}
	x.Offset.Lo, x.Offset.Hi = min(x.Offset.Lo, offset), min(max(x.Offset.Hi, offset), 100000)
	return x
}

func TestTrueDepthsAndHeights(t *testing.T) {
	var n numbers = 7
	narrow := 0
	for range 5000 {
		speed := n.from(500, 10000)
		upper := n.from(0, 20000)
		lower := n.from(upper, 20000)
		slack := []int{0, 1, 50}[n.from(0, 2)]
		first := must(flaw.TipDepth(n.hit(upper, n.from(0, 100000), speed, slack)))
		last := must(flaw.TipDepth(n.hit(lower, n.from(0, 100000), speed, slack)))
		for depth, r := range map[int]api.Range{upper: first, lower: last} {
			if depth < r.Lo || r.Hi < depth {
				t.Errorf("the depth %d is not in %v", depth, r)
			}
		}
		h := must(flaw.HeightOf(first, last))
		if lower-upper < h.Lo || h.Hi < lower-upper {
			t.Errorf("the height %d is not in %v", lower-upper, h)
		}
		if h.Hi-h.Lo < 100 {
			narrow++
		}
	}
	if narrow < 1000 {
		t.Errorf("only %d are narrow", narrow)
	}
}
