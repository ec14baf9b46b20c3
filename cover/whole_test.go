package cover_test

import (
	"fmt"
	"math"
	"reflect"
	"slices"
	"testing"

	"couplant/api"
	"couplant/cover"
)

// R3: arguments stay as they are, also behind their ends, and results are in
// their own memory.
func TestArgumentsStay(t *testing.T) {
	faces := append(make([]api.CoverFace, 0, 5), slant().Faces...)
	j := slant()
	j.Faces = faces
	setups := append(make([]api.CoverSetup, 0, 5), direct(), skip(3))
	points := append(make([]api.CoverPoint, 0, 5), point(0, 1), point(2, 3))
	readings := append(make([]int, 0, 5), 38, 20)
	one := []api.CoverSetup{direct()}
	for range 2 {
		bevelled := must(cover.Bevelled(vee()))
		expectAlike(t, "Bevelled", len(bevelled.Faces), 4)
		clear(bevelled.Faces)
		must(cover.SpotAt(j, 0, points[1]))
		must(cover.InZone(j, spot(1, 1)))
		must(cover.IsMet(j, ask(setups[0]), points[1]))
		must(cover.PartOf(j, ask(setups[0])))
		must(cover.SurePart(j, ask(setups[0]), 200))
		must(cover.FirstGap(j, 0, one))
		_, _, e := cover.CheckPlan(j, setups)
		expect(t, "CheckPlan", 0, e, 0, api.OK)
		fewest, apart, e := cover.Fewest(j, 0, setups)
		expect(t, "Fewest", fewest, e, []int{1}, api.OK)
		expectAlike(t, "Fewest's points", apart, []api.CoverPoint{point(0, 1)})
		clear(fewest)
		clear(apart)
		must(cover.CheckApart(j, api.CoverChoice{Setups: one}, points))
		least := must(cover.LeastPlan(j, setups))
		expectAlike(t, "LeastPlan", least, []int{1})
		clear(least)
		scanned := must(cover.Scanned(example(), readings))
		expectAlike(t, "Scanned", scanned, ranges(12, 28, 30, 46))
		clear(scanned)
		anew := must(cover.Anew(example(), readings))
		expectAlike(t, "Anew", anew, ranges(0, 11, 29, 29, 47, 100))
		clear(anew)
		parsed, _, _ := cover.Parse(must(cover.Print(j)))
		expectAlike(t, "Parse", parsed, slant())
		clear(parsed.Faces)
	}
	for _, x := range []struct{ got, want any }{
		{faces[:5], append(slant().Faces, make([]api.CoverFace, 4)...)},
		{setups[:5], append([]api.CoverSetup{direct(), skip(3)}, make([]api.CoverSetup, 3)...)},
		{points[:5], []api.CoverPoint{point(0, 1), point(2, 3), {}, {}, {}}},
		{readings[:5], []int{38, 20, 0, 0, 0}},
	} {
		if !reflect.DeepEqual(x.got, x.want) {
			t.Errorf("%v has become %v", x.want, x.got)
		}
	}
}

// edge returns a number that is right mostly, and otherwise as far away as may
// be.
func (n *numbers) edge(right int) int {
	if n.from(0, 9) > 0 {
		return right
	}
	edges := []int{math.MinInt, math.MinInt + 1, -1000001, -20001, -1, 0, 1, 2, 3, 101, 20001, 1000001, 1 << 31, 1 << 62, huge - 1, huge}
	return edges[n.from(0, len(edges)-1)]
}

func (n *numbers) edgeFrac(f api.Frac) api.Frac {
	return api.Frac{Num: n.edge(f.Num), Den: n.edge(f.Den)}
}

func (n *numbers) edgeSpot(p api.Spot) api.Spot {
	return spot(n.edge(p.X), n.edge(p.Z))
}

// R2: no function panics, whatever its arguments are.
func TestAnyNumbers(t *testing.T) {
	var n numbers = 18
	for range 3000 {
		j := n.joint(2, 1000)
		j.Thick, j.Zone = n.edge(j.Thick), n.edge(j.Zone)
		for k := range j.Faces {
			j.Faces[k].From, j.Faces[k].To = n.edgeSpot(j.Faces[k].From), n.edgeSpot(j.Faces[k].To)
		}
		if n.isOnce(2) {
			j = slant()
		}
		l := n.setups(2, 1000)
		for k := range l {
			s := &l[k]
			s.At, s.Side, s.Legs = n.edge(s.At), n.edge(s.Side), n.edge(s.Legs)
			s.Least, s.Most, s.Tilt = n.edgeFrac(s.Least), n.edgeFrac(s.Most), n.edgeFrac(s.Tilt)
		}
		if n.isOnce(2) {
			l = n.setups(2, 1000)
		}
		face, p := n.edge(0), api.CoverPoint(n.edgeFrac(frac(1, 2)))
		callAll(j, face, l, p, n.edge(5), n.edgeSpot(spot(1, 1)))
		b := vee()
		b.Thick, b.Zone, b.HalfGap, b.Land, b.Tangent = n.edge(b.Thick), n.edge(b.Zone), n.edge(b.HalfGap), n.edge(b.Land), n.edgeFrac(b.Tangent)
		if made, e := cover.Bevelled(b); e == api.OK {
			_, e = cover.CheckJoint(made)
			expect(t, "CheckJoint of a bevelled one", 0, e, 0, api.OK)
		}
		track := api.CoverTrack{From: n.edge(0), To: n.edge(100), Slip: n.edge(2), Reach: n.edge(10)}
		readings := []int{n.edge(20), n.edge(38)}
		cover.CheckTrack(track)
		cover.Scanned(track, readings)
		cover.Anew(track, readings)
	}
}

// callAll calls what is asked of joints and set-ups.
func callAll(j api.CoverJoint, face int, l []api.CoverSetup, p api.CoverPoint, shift int, at api.Spot) {
	x := api.CoverAsk{Face: face, Setup: l[0]}
	cover.CheckJoint(j)
	cover.CheckSetup(l[0])
	cover.SpotAt(j, face, p)
	cover.InZone(j, at)
	cover.IsMet(j, x, p)
	cover.PartOf(j, x)
	cover.SurePart(j, x, shift)
	cover.FirstGap(j, face, l)
	cover.CheckPlan(j, l)
	cover.Fewest(j, face, l)
	cover.CheckApart(j, api.CoverChoice{Face: face, Setups: l}, []api.CoverPoint{p, {Num: 1, Den: 1}})
	cover.LeastPlan(j, l)
	cover.Print(j)
	cover.ParseSetup(cover.FormatSetup(l[0]))
}

// P2: each point of each face is met as a plan says, or lies in a gap that is
// named; no plan has fewer set-ups than there are points apart.
func TestPlansOfBevelledJoints(t *testing.T) {
	b := vee()
	b.HalfGap = 0
	j := must(cover.Bevelled(b))
	setup := func(name string, at, side, legs int) api.CoverSetup {
		return api.CoverSetup{Name: name, At: at, Side: side, Legs: legs, Least: frac(1, 2), Most: frac(3), Tilt: frac(1)}
	}
	l := []api.CoverSetup{
		setup("far-l", -2500, 1, 1), setup("near-l", -1000, 1, 1), setup("skip-l", -1500, 1, 2), setup("wide-l", -2200, 1, 2),
		setup("far-r", 2500, -1, 1), setup("near-r", 1000, -1, 1), setup("skip-r", 1500, -1, 2), setup("wide-r", 2200, -1, 2),
	}
	plan := must(cover.LeastPlan(j, l))
	var some []api.CoverSetup
	for _, number := range plan {
		some = append(some, l[number])
	}
	for bits := range 1 << len(some) {
		left := chosen(some, bits)
		face, gap, e := cover.CheckPlan(j, left)
		if len(left) == len(some) {
			refused(t, "CheckPlan", gap, e, api.OK)
		} else if e != api.ErrGap {
			t.Errorf("CheckPlan of %v: error %d", left, e)
		}
		for k := 1; k < 1000 && e == api.ErrGap; k++ {
			p := pointOf(ratio(k, 1000))
			isIn := share(gap.From).Cmp(share(p)) < 0 && share(p).Cmp(share(gap.To)) < 0
			for _, s := range left {
				if isIn && must(cover.IsMet(j, api.CoverAsk{Face: face, Setup: s}, p)) {
					t.Errorf("%v in the gap %v is met by %s", p, gap, s.Name)
				}
			}
		}
	}
	for face := range j.Faces {
		fewest, points, e := cover.Fewest(j, face, l)
		if e != api.OK || len(fewest) != len(points) || len(points) > len(plan) {
			t.Errorf("Fewest: %v, %v, error %d; the least plan is %v", fewest, points, e, plan)
		}
	}
	if len(plan) < 2 || !slices.IsSorted(plan) {
		t.Error(fmt.Sprint("LeastPlan: ", plan))
	}
}
