package cover_test

import (
	"fmt"
	"math/bits"
	"slices"
	"testing"

	"couplant/api"
	"couplant/cover"
)

// wall is a joint with an upright face of 100, told from the back wall upwards.
func wall() api.CoverJoint {
	return api.CoverJoint{Name: "w", Thick: 100, Faces: []api.CoverFace{{Name: "f", From: spot(0, 100), To: spot(0, 0)}}}
}

// window returns a set-up that meets the wall from one depth to another one: at
// -100 the tangents are 100 / depth; it must be one with small parts.
func window(upper, lower int) api.CoverSetup {
	tangent := func(depth int) api.Frac {
		r := ratio(100, depth)
		return frac(int(r.Num().Int64()), int(r.Denom().Int64()))
	}
	return api.CoverSetup{Name: "s", At: -100, Side: 1, Legs: 1, Least: tangent(lower), Most: tangent(upper), Tilt: frac(100)}
}

// windows returns set-ups that meet the wall from one depth to another one, told
// in pairs.
func windows(depths ...int) []api.CoverSetup {
	var l []api.CoverSetup
	for pair := range slices.Chunk(depths, 2) {
		l = append(l, window(pair[0], pair[1]))
	}
	return named(l...)
}

// P7.3

func TestFirstGap(t *testing.T) {
	for _, x := range []struct {
		l    []api.CoverSetup
		want api.CoverPart
	}{
		{nil, from(0, 1, 1, 1)},
		{[]api.CoverSetup{}, from(0, 1, 1, 1)},
		{windows(1, 100), from(99, 100, 1, 1)},
		{windows(1, 50), from(0, 1, 1, 2)},
		{windows(80, 100, 50, 75), from(1, 5, 1, 4)},
		{windows(50, 75, 80, 100), from(1, 5, 1, 4)},
		// More exactly: two parts that touch have no gap between them.
		{windows(80, 100, 50, 80), from(1, 2, 1, 1)},
		{windows(75, 80, 50, 75, 80, 100), from(1, 2, 1, 1)},
		// A part within another one, and parts of one point.
		{windows(20, 100, 50, 80), from(4, 5, 1, 1)},
		{windows(50, 50), from(0, 1, 1, 2)},
		{windows(100, 100), from(0, 1, 1, 1)},
		{windows(100, 100, 50, 50), from(0, 1, 1, 2)},
		{windows(50, 50, 80, 100), from(1, 5, 1, 2)},
		{windows(80, 80, 80, 100, 50, 80, 25, 25), from(1, 2, 3, 4)},
	} {
		expectAlike(t, fmt.Sprint("FirstGap of ", x.l), must(cover.FirstGap(wall(), 0, x.l)), x.want)
	}
	for _, l := range [][]api.CoverSetup{{direct(), skip(3)}, {skip(3), direct()}, {skip(3)}} {
		gap, e := cover.FirstGap(slant(), 0, l)
		refused(t, "FirstGap of what is covered", gap, e, api.ErrNone)
	}
	expectAlike(t, "FirstGap of the example", must(cover.FirstGap(slant(), 0, []api.CoverSetup{direct()})), from(1, 2, 1, 1))
}

func TestCheckPlan(t *testing.T) {
	other := api.CoverFace{Name: "g", From: spot(1000, 0), To: spot(0, 1000)}
	away := api.CoverFace{Name: "h", From: spot(-5000, 500), To: spot(-5000, 1000)}
	for _, x := range []struct {
		j    api.CoverJoint
		l    []api.CoverSetup
		face int
		gap  api.CoverPart
		want api.Errno
	}{
		{slant(), []api.CoverSetup{direct(), skip(3)}, 0, api.CoverPart{}, api.OK},
		{slant(other), []api.CoverSetup{skip(3)}, 0, api.CoverPart{}, api.OK},
		{slant(), []api.CoverSetup{direct()}, 0, from(1, 2, 1, 1), api.ErrGap},
		{slant(), nil, 0, from(0, 1, 1, 1), api.ErrGap},
		{slant(other), []api.CoverSetup{direct()}, 0, from(1, 2, 1, 1), api.ErrGap},
		{slant(other, away), []api.CoverSetup{direct(), skip(3)}, 2, from(0, 1, 1, 1), api.ErrGap},
		// More exactly: a plan without set-ups covers a joint without faces.
		{api.CoverJoint{Name: "v", Thick: 1}, nil, 0, api.CoverPart{}, api.OK},
		{api.CoverJoint{Name: "v", Thick: 1}, []api.CoverSetup{direct()}, 0, api.CoverPart{}, api.OK},
	} {
		face, gap, e := cover.CheckPlan(x.j, x.l)
		expect(t, "CheckPlan", gap, e, x.gap, x.want)
		expectAlike(t, "CheckPlan's face", face, x.face)
	}
	// The first face that is not covered is told, though it is not the first one.
	j := slant()
	j.Faces = []api.CoverFace{other, away, j.Faces[0]}
	face, gap, e := cover.CheckPlan(j, []api.CoverSetup{skip(3)})
	expect(t, "CheckPlan", gap, e, from(0, 1, 1, 1), api.ErrGap)
	expectAlike(t, "CheckPlan's face", face, 1)
}

func TestGapsAreAsDefined(t *testing.T) {
	var n numbers = 7
	counts := map[bool]int{}
	for range 1500 {
		most := []int{10, 1000, 20000}[n.from(0, 2)]
		j := n.joint(n.from(1, 3), most)
		l := n.setups(n.from(0, 6), most/2)
		if len(l) > 0 && n.isOnce(3) {
			l[0].Tilt = frac(0)
		}
		wantFace, wantGap, want := 0, api.CoverPart{}, api.OK
		for face := range j.Faces {
			gaps := gapsOf(stretchesOf(j, face, l))
			gap, e := cover.FirstGap(j, face, l)
			if len(gaps) == 0 {
				refused(t, "FirstGap", gap, e, api.ErrNone)
			} else {
				expect(t, fmt.Sprint("FirstGap of ", j, l), gap, e, gaps[0], api.OK)
				if want == api.OK {
					wantFace, wantGap, want = face, gaps[0], api.ErrGap
				}
			}
			counts[len(gaps) == 0]++
		}
		face, gap, e := cover.CheckPlan(j, l)
		expect(t, "CheckPlan", gap, e, wantGap, want)
		expectAlike(t, "CheckPlan's face", face, wantFace)
	}
	if counts[true] < 300 || counts[false] < 300 {
		t.Errorf("%v", counts)
	}
}

// refuseLists expects the errors of a joint, a face and set-ups, of all functions
// that have them.
func refuseLists(t *testing.T, j api.CoverJoint, face int, l []api.CoverSetup, want api.Errno) {
	t.Helper()
	gap, e := cover.FirstGap(j, face, l)
	refused(t, "FirstGap", gap, e, want)
	setups, points, e := cover.Fewest(j, face, l)
	refused(t, "Fewest", setups, e, want)
	refused(t, "Fewest's points", points, e, want)
	for _, p := range [][]api.CoverPoint{nil, {{}}, make([]api.CoverPoint, 13)} {
		count, e := cover.CheckApart(j, api.CoverChoice{Face: face, Setups: l}, p)
		refused(t, "CheckApart", count, e, want)
	}
	if want == api.ErrMissing {
		return
	}
	face, gap, e = cover.CheckPlan(j, l)
	refused(t, "CheckPlan", gap, e, want)
	refused(t, "CheckPlan's face", face, e, want)
	setups, e = cover.LeastPlan(j, l)
	refused(t, "LeastPlan", setups, e, want)
}

func TestErrorsOfPlans(t *testing.T) {
	many := make([]api.CoverSetup, 13)
	for want, j := range wrongJoints() {
		refuseLists(t, j, 0, nil, want)
		refuseLists(t, j, -1, many, want)
	}
	for _, face := range []int{-1, 1, huge, -huge - 1} {
		refuseLists(t, slant(), face, nil, api.ErrMissing)
		refuseLists(t, slant(), face, many, api.ErrMissing)
	}
	for want, l := range wrongLists() {
		refuseLists(t, slant(), 0, l, want)
	}
	// The first set-up with an error is told, and its first error.
	wrong := direct()
	wrong.Tilt = frac(0, 3)
	refuseLists(t, slant(), 0, []api.CoverSetup{direct(), skip(1), wrong, {}}, api.ErrForm)
	refuseLists(t, slant(), 0, []api.CoverSetup{direct(), direct(), {}}, api.ErrExists)
	refuseLists(t, slant(), 0, []api.CoverSetup{direct(), {}, direct()}, api.ErrName)
	refuseLists(t, slant(), 0, make([]api.CoverSetup, 12), api.ErrName)
}

func TestTwelveSetups(t *testing.T) {
	var n numbers = 8
	l := n.setups(13, 1000)
	_, e := cover.FirstGap(slant(), 0, l[:12])
	if e != api.OK && e != api.ErrNone {
		t.Errorf("FirstGap of 12 set-ups: error %d", e)
	}
	refuseLists(t, slant(), 0, l, api.ErrLarge)
}

// P7.4

// fewestOf returns the least number of stretches that leave no gap, by
// definition, or -1.
func fewestOf(met []stretch) int {
	fewest := -1
	for set := range 1 << len(met) {
		count := bits.OnesCount(uint(set))
		if (fewest < 0 || count < fewest) && len(gapsOf(chosen(met, set))) == 0 {
			fewest = count
		}
	}
	return fewest
}

// expectFewest compares what Fewest returns with its definition, and returns how
// many set-ups these are, or -1.
func expectFewest(t *testing.T, j api.CoverJoint, face int, l []api.CoverSetup) int {
	t.Helper()
	want := fewestOf(stretchesOf(j, face, l))
	numbers, points, e := cover.Fewest(j, face, l)
	if want < 0 {
		refused(t, "Fewest", numbers, e, api.ErrGap)
		refused(t, "Fewest's points", points, e, api.ErrGap)
		return want
	}
	expect(t, fmt.Sprint("Fewest of ", j, face, l), len(numbers), e, want, api.OK)
	var plan []api.CoverSetup
	for k, number := range numbers {
		plan = append(plan, l[number])
		if k > 0 && numbers[k-1] >= number {
			t.Errorf("Fewest: %v", numbers)
		}
	}
	gap, e := cover.FirstGap(j, face, plan)
	refused(t, "FirstGap of the fewest", gap, e, api.ErrNone)
	count, e := cover.CheckApart(j, api.CoverChoice{Face: face, Setups: l}, points)
	expect(t, fmt.Sprint("CheckApart of ", points), count, e, want, api.OK)
	return want
}

func TestFewestOfWindows(t *testing.T) {
	j := wall()
	j.Faces[0].To.Z = 4
	for _, x := range []struct {
		l    []api.CoverSetup
		want int
	}{
		{windows(4, 100), 1},
		{windows(50, 100, 4, 50), 2},
		{windows(4, 50, 50, 100), 2},
		{windows(50, 100, 4, 50, 40, 60), 2},
		{windows(80, 100, 50, 80, 25, 50, 20, 25, 4, 20), 5},
		{windows(80, 100, 50, 80, 25, 50, 20, 25, 4, 20, 20, 80), 3},
		{windows(40, 100, 50, 100, 25, 80, 5, 50, 4, 20), 3},
		{windows(40, 100, 4, 25), -1},
		{windows(5, 100, 100, 100), -1},
		{windows(5, 100, 4, 4), -1},
		{nil, -1},
	} {
		expectAlike(t, fmt.Sprint("Fewest of ", x.l), expectFewest(t, j, 0, x.l), x.want)
	}
	setups, points, e := cover.Fewest(slant(), 0, []api.CoverSetup{direct(), skip(3)})
	expect(t, "Fewest of the example", setups, e, []int{1}, api.OK)
	expectAlike(t, "how many points", len(points), 1)
}

func TestFewestIsAsDefined(t *testing.T) {
	var n numbers = 9
	counts := map[int]int{}
	for range 1500 {
		most := []int{10, 1000, 20000}[n.from(0, 2)]
		counts[expectFewest(t, n.joint(1, most), 0, n.setups(n.from(1, 6), most/2))]++
	}
	// Set-ups that meet little each.
	for range 1500 {
		j := wall()
		j.Faces[0].To.Z = 20
		depths := []int{20, 25, 40, 50, 80, 100}
		var l []int
		for range n.from(1, 8) {
			upper := n.from(0, 4)
			l = append(l, depths[upper], depths[min(5, upper+n.from(0, 2))])
		}
		counts[expectFewest(t, j, 0, windows(l...))]++
	}
	for _, count := range []int{-1, 1, 2, 3, 4} {
		if counts[count] < 30 {
			t.Errorf("%v", counts)
		}
	}
}

// The points lie between ends of parts with the greatest numbers, and are points
// nevertheless.
func TestFewestOfTheGreatestNumbers(t *testing.T) {
	var n numbers = 10
	found := 0
	for range 30000 {
		j := api.CoverJoint{Name: "j", Thick: 20000, Faces: []api.CoverFace{{Name: "f", From: spot(-n.from(19000, 20000), n.from(19000, 20000)), To: spot(n.from(19000, 20000), n.from(0, 1000))}}}
		var l []api.CoverSetup
		for range 3 {
			s := api.CoverSetup{At: n.from(-20000, 20000), Side: 2*n.from(0, 1) - 1, Legs: 2, Least: frac(0), Most: frac(100), Tilt: ninety(n.from(1, 9), n.from(0, 9))}
			l = append(l, s)
		}
		setups, points, e := cover.Fewest(j, 0, named(l...))
		if e != api.OK || len(setups) == 1 {
			continue
		}
		found++
		count, e := cover.CheckApart(j, api.CoverChoice{Setups: named(l...)}, points)
		expect(t, "CheckApart", count, e, len(setups), api.OK)
	}
	if found < 20 {
		t.Errorf("only %d are found", found)
	}
}

// ninety returns a tangent with great parts.
func ninety(a, b int) api.Frac {
	r := ratio(91+b, 90+a)
	return frac(int(r.Num().Int64()), int(r.Denom().Int64()))
}

func TestCheckApart(t *testing.T) {
	l := windows(50, 100, 25, 50, 5, 20)
	for _, x := range []struct {
		p    []api.CoverPoint
		n    int
		want api.Errno
	}{
		{nil, 0, api.OK},
		{[]api.CoverPoint{}, 0, api.OK},
		{[]api.CoverPoint{point(1, 2)}, 1, api.OK},
		{[]api.CoverPoint{point(0, 1), point(3, 4), point(4, 5)}, 3, api.OK},
		{[]api.CoverPoint{point(49, 100), point(51, 100), point(9, 10)}, 3, api.OK},
		// Points that are met by none, between parts and at the end.
		{[]api.CoverPoint{point(0, 1), point(3, 4), point(77, 100), point(78, 101), point(19, 20), point(96, 97), point(1, 1)}, 7, api.OK},
		{[]api.CoverPoint{point(0, 1), point(1, 2)}, 0, api.ErrProof},
		{[]api.CoverPoint{point(1, 2), point(3, 4)}, 0, api.ErrProof},
		{[]api.CoverPoint{point(0, 1), point(49, 100), point(51, 100)}, 0, api.ErrProof},
		{[]api.CoverPoint{point(0, 1), point(4, 5), point(19, 20)}, 0, api.ErrProof},
		{[]api.CoverPoint{point(1, 2), point(1, 2)}, 0, api.ErrOrder},
		{[]api.CoverPoint{point(1, 2), point(499999999999, 1000000000000)}, 0, api.ErrOrder},
		{[]api.CoverPoint{point(0, 1), point(1, 4), point(0, 1), {}}, 0, api.ErrOrder},
		{[]api.CoverPoint{point(1, 2), point(1, 3), point(0, 1)}, 0, api.ErrOrder},
		{[]api.CoverPoint{point(1, 2), {}, point(0, 1)}, 0, api.ErrForm},
		{make([]api.CoverPoint, 12), 0, api.ErrForm},
		{make([]api.CoverPoint, 13), 0, api.ErrLarge},
		// Two that are as close to each other as points may be.
		{[]api.CoverPoint{point(999999999998, 999999999999), point(999999999999, 1000000000000)}, 2, api.OK},
		{[]api.CoverPoint{point(999999999999, 1000000000000), point(999999999998, 999999999999)}, 0, api.ErrOrder},
	} {
		n, e := cover.CheckApart(wall(), api.CoverChoice{Setups: l}, x.p)
		expect(t, fmt.Sprint("CheckApart of ", x.p), n, e, x.n, x.want)
	}
	var p []api.CoverPoint
	for n := range 12 {
		p = append(p, point(1, 13-n))
	}
	n, e := cover.CheckApart(wall(), api.CoverChoice{}, p)
	expect(t, "CheckApart of many points, without set-ups", n, e, 12, api.OK)
	for wrong, want := range wrongPoints() {
		n, e := cover.CheckApart(wall(), api.CoverChoice{Setups: l}, []api.CoverPoint{point(0, 1), wrong, {}})
		refused(t, "CheckApart", n, e, want)
	}
	n, e = cover.CheckApart(slant(), api.CoverChoice{Setups: []api.CoverSetup{direct()}}, []api.CoverPoint{point(0, 1), point(1, 2)})
	refused(t, "CheckApart of the example", n, e, api.ErrProof)
}

func TestCheckApartIsAsDefined(t *testing.T) {
	var n numbers = 11
	counts := map[api.Errno]int{}
	for range 1500 {
		j := n.joint(2, 1000)
		x := api.CoverChoice{Face: n.from(0, 1), Setups: n.setups(n.from(1, 3), 1000)}
		var p []api.CoverPoint
		for at := n.from(0, 9); at <= 20; at += n.from(1, 15) {
			p = append(p, pointOf(ratio(at, 20)))
		}
		want, number := api.OK, len(p)
		for _, met := range stretchesOf(j, x.Face, x.Setups) {
			have := 0
			for _, q := range p {
				if met.has(share(q)) {
					have++
				}
			}
			if have > 1 {
				want, number = api.ErrProof, 0
			}
		}
		got, e := cover.CheckApart(j, x, p)
		expect(t, fmt.Sprint("CheckApart of ", j, x, p), got, e, number, want)
		counts[want]++
	}
	if counts[api.OK] < 300 || counts[api.ErrProof] < 300 {
		t.Errorf("%v", counts)
	}
}

// leastOf returns the least set of set-ups that covers a joint, by definition.
func leastOf(j api.CoverJoint, l []api.CoverSetup) ([]int, api.Errno) {
	var faces [][][]stretch
	for face := range j.Faces {
		var met [][]stretch
		for n := range l {
			met = append(met, stretchesOf(j, face, l[n:n+1]))
		}
		faces = append(faces, met)
	}
	var all [][]int
	for set := range 1 << len(l) {
		covers := true
		for _, met := range faces {
			covers = covers && len(gapsOf(slices.Concat(chosen(met, set)...))) == 0
		}
		if covers {
			var numbers []int
			for n := range l {
				numbers = append(numbers, n)
			}
			all = append(all, chosen(numbers, set))
		}
	}
	if len(all) == 0 {
		return nil, api.ErrGap
	}
	return slices.MinFunc(all, func(a, b []int) int {
		if len(a) != len(b) {
			return len(a) - len(b)
		}
		return slices.Compare(a, b)
	}), api.OK
}

func TestLeastPlan(t *testing.T) {
	j := wall()
	j.Faces[0].To.Z = 4
	for _, x := range []struct {
		l    []api.CoverSetup
		want []int
	}{
		{windows(4, 100), []int{0}},
		{windows(100, 100, 4, 100, 4, 100), []int{1}},
		{windows(50, 100, 4, 50, 40, 100, 4, 40), []int{0, 1}},
		{windows(50, 100, 40, 100, 20, 80, 4, 40), []int{1, 3}},
		{windows(20, 50, 4, 25, 50, 100, 50, 100, 4, 20), []int{0, 1, 2}},
	} {
		expectAlike(t, fmt.Sprint("LeastPlan of ", x.l), must(cover.LeastPlan(j, x.l)), x.want)
	}
	for _, l := range [][]api.CoverSetup{nil, windows(5, 100), windows(4, 25, 40, 100)} {
		plan, e := cover.LeastPlan(j, l)
		refused(t, "LeastPlan", plan, e, api.ErrGap)
	}
	// Nothing is needed for a joint without faces.
	j.Faces = nil
	expectAlike(t, "LeastPlan without faces", must(cover.LeastPlan(j, nil)), nil)
	expectAlike(t, "LeastPlan without faces", must(cover.LeastPlan(j, windows(4, 100))), nil)
	expectAlike(t, "LeastPlan of the example", must(cover.LeastPlan(slant(), []api.CoverSetup{direct(), skip(3)})), []int{1})
}

// Twelve faces, each one met by one of twelve set-ups alone: all are needed.
func TestLeastPlanOfTwelve(t *testing.T) {
	j := api.CoverJoint{Name: "j", Thick: 100}
	var l []api.CoverSetup
	for n := range 12 {
		at := 1000 * n
		j.Faces = append(j.Faces, api.CoverFace{Name: fmt.Sprint("f", n), From: spot(at, 90), To: spot(at, 10)})
		l = append(l, api.CoverSetup{At: at - 100, Side: 1, Legs: 1, Least: frac(0), Most: frac(10), Tilt: frac(12)})
	}
	all := []int{0, 1, 2, 3, 4, 5, 6, 7, 8, 9, 10, 11}
	expectAlike(t, "LeastPlan", must(cover.LeastPlan(j, named(l...))), all)
	l[5].Side = -1
	plan, e := cover.LeastPlan(j, named(l...))
	refused(t, "LeastPlan", plan, e, api.ErrGap)
}

// P7.8, P7.9, and P2

func TestPlansKeepTheirPromises(t *testing.T) {
	var n numbers = 12
	counts := map[int]int{}
	for range 2000 {
		most := []int{30, 1000}[n.from(0, 1)]
		j := n.joint(n.from(1, 3), most)
		l := n.setups(n.from(0, 6), most/2)
		for face := range j.Faces {
			expectWidest(t, j, face, l, &n)
		}
		want, f := leastOf(j, l)
		plan, e := cover.LeastPlan(j, l)
		expect(t, fmt.Sprint("LeastPlan of ", j, l), plan, e, want, f)
		if e != api.OK {
			counts[-1]++
			continue
		}
		counts[len(plan)]++
		var some []api.CoverSetup
		for _, number := range plan {
			some = append(some, l[number])
		}
		face, gap, e := cover.CheckPlan(j, some)
		refused(t, "CheckPlan of the least plan", gap, e, api.OK)
		refused(t, "CheckPlan of the least plan", face, e, api.OK)
		for face := range j.Faces {
			setups, points, e := cover.Fewest(j, face, l)
			if e != api.OK || len(setups) > len(plan) || len(points) != len(setups) {
				t.Errorf("LeastPlan of %v: %v; Fewest: %v, %v, error %d", j, plan, setups, points, e)
			}
		}
	}
	for _, count := range []int{-1, 1, 2, 3} {
		if counts[count] < 10 {
			t.Errorf("%v", counts)
		}
	}
}

// expectWidest expects that each point of a face is met, or lies in a gap, and
// that one set-up more makes no gap wider.
func expectWidest(t *testing.T, j api.CoverJoint, face int, l []api.CoverSetup, n *numbers) {
	t.Helper()
	gap, e := cover.FirstGap(j, face, l)
	for range 20 {
		den := n.from(1, 5000)
		at := ratio(n.from(0, den), den)
		isMet := false
		for _, s := range l {
			isMet = isMet || must(cover.IsMet(j, api.CoverAsk{Face: face, Setup: s}, pointOf(at)))
		}
		if e != api.OK && !isMet {
			t.Errorf("%v of %v has no gap, but is not met at %v", face, j, at)
		}
		if e == api.OK && isMet && share(gap.From).Cmp(at) < 0 && at.Cmp(share(gap.To)) < 0 {
			t.Errorf("%v of %v has the gap %v, but is met at %v", face, j, gap, at)
		}
		if e == api.OK && !isMet && at.Cmp(share(gap.From)) < 0 {
			t.Errorf("%v of %v has the gap %v first, but is not met at %v", face, j, gap, at)
		}
	}
	more := named(append(slices.Clone(l), n.setups(1, 1000)...)...)
	next, f := cover.FirstGap(j, face, more)
	if f != api.OK {
		return
	}
	isWithin := slices.ContainsFunc(gapsOf(stretchesOf(j, face, l)), func(g api.CoverPart) bool {
		return share(g.From).Cmp(share(next.From)) <= 0 && share(next.To).Cmp(share(g.To)) <= 0
	})
	if e != api.OK || !isWithin {
		t.Errorf("%v of %v has the gap %v, with one set-up more %v", face, j, gap, next)
	}
}
