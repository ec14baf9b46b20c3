package cover_test

import (
	"fmt"
	"math/big"
	"testing"

	"couplant/api"
	"couplant/cover"
)

// P7.2

func TestCheckSetup(t *testing.T) {
	for _, x := range []struct {
		spoil func(s *api.CoverSetup)
		want  api.Errno
	}{
		{func(s *api.CoverSetup) {}, api.OK},
		{func(s *api.CoverSetup) { s.At = 20000 }, api.OK},
		{func(s *api.CoverSetup) { s.At = -20000 }, api.OK},
		{func(s *api.CoverSetup) { s.Side, s.Legs = -1, 2 }, api.OK},
		{func(s *api.CoverSetup) { s.Least = frac(3) }, api.OK},
		{func(s *api.CoverSetup) { s.Least, s.Most = frac(0), frac(0) }, api.OK},
		{func(s *api.CoverSetup) { s.Least, s.Most, s.Tilt = frac(1, 100), frac(100), frac(99, 100) }, api.OK},
		{func(s *api.CoverSetup) { s.Least, s.Most = frac(98, 99), frac(99, 100) }, api.OK},
		{func(s *api.CoverSetup) { s.Tilt = frac(0) }, api.OK},
		{func(s *api.CoverSetup) { s.Name = "" }, api.ErrName},
		{func(s *api.CoverSetup) { s.Name = "abcdefghijklm" }, api.ErrName},
		{func(s *api.CoverSetup) { s.Name = "a b" }, api.ErrName},
		{func(s *api.CoverSetup) { s.At = 20001 }, api.ErrRange},
		{func(s *api.CoverSetup) { s.At = -20001 }, api.ErrRange},
		{func(s *api.CoverSetup) { s.At = -huge - 1 }, api.ErrRange},
		{func(s *api.CoverSetup) { s.Side = 0 }, api.ErrKind},
		{func(s *api.CoverSetup) { s.Side = 2 }, api.ErrKind},
		{func(s *api.CoverSetup) { s.Side = -2 }, api.ErrKind},
		{func(s *api.CoverSetup) { s.Side = huge }, api.ErrKind},
		{func(s *api.CoverSetup) { s.Legs = 0 }, api.ErrKind},
		{func(s *api.CoverSetup) { s.Legs = 3 }, api.ErrKind},
		{func(s *api.CoverSetup) { s.Legs = -1 }, api.ErrKind},
		{func(s *api.CoverSetup) { s.Least = api.Frac{} }, api.ErrForm},
		{func(s *api.CoverSetup) { s.Least = frac(0, 5) }, api.ErrForm},
		{func(s *api.CoverSetup) { s.Most = frac(6, 2) }, api.ErrForm},
		{func(s *api.CoverSetup) { s.Tilt = frac(1, 0) }, api.ErrForm},
		{func(s *api.CoverSetup) { s.Tilt = frac(-1, -1) }, api.ErrForm},
		{func(s *api.CoverSetup) { s.Tilt = frac(-huge-1, -huge-1) }, api.ErrForm},
		{func(s *api.CoverSetup) { s.Least = frac(-1) }, api.ErrRange},
		{func(s *api.CoverSetup) { s.Least = frac(1, 101) }, api.ErrRange},
		{func(s *api.CoverSetup) { s.Most = frac(101) }, api.ErrRange},
		{func(s *api.CoverSetup) { s.Most = frac(huge) }, api.ErrRange},
		{func(s *api.CoverSetup) { s.Tilt = frac(101, 100) }, api.ErrRange},
		{func(s *api.CoverSetup) { s.Tilt = frac(-1, 2) }, api.ErrRange},
		{func(s *api.CoverSetup) { s.Least = frac(31, 10) }, api.ErrOrder},
		{func(s *api.CoverSetup) { s.Least, s.Most = frac(99, 100), frac(98, 99) }, api.ErrOrder},
	} {
		s := direct()
		x.spoil(&s)
		e := cover.CheckSetup(s)
		expect(t, fmt.Sprint("CheckSetup of ", s), 0, e, 0, x.want)
	}
}

func TestErrorsOfSetupsInOrder(t *testing.T) {
	faults := []fault[api.CoverSetup]{
		{func(s *api.CoverSetup) { s.Name = "-" }, 0, api.ErrName},
		{func(s *api.CoverSetup) { s.At = 20001 }, 0, api.ErrRange},
		{func(s *api.CoverSetup) { s.Side = 0 }, 0, api.ErrKind},
		{func(s *api.CoverSetup) { s.Least = frac(202, 2) }, 0, api.ErrForm},
		{func(s *api.CoverSetup) { s.Least = frac(101) }, 0, api.ErrRange},
		{func(s *api.CoverSetup) { s.Most = frac(202, 2) }, 0, api.ErrForm},
		{func(s *api.CoverSetup) { s.Most = frac(101) }, 0, api.ErrRange},
		{func(s *api.CoverSetup) { s.Tilt = frac(202, 2) }, 0, api.ErrForm},
		{func(s *api.CoverSetup) { s.Tilt = frac(101) }, 0, api.ErrRange},
		{func(s *api.CoverSetup) { s.Most = frac(0) }, 0, api.ErrOrder},
	}
	fresh := func() api.CoverSetup {
		s := direct()
		s.Least = frac(1)
		return s
	}
	eachFault(fresh, faults, func(s api.CoverSetup, _ int, want api.Errno) {
		expect(t, fmt.Sprint("CheckSetup of ", s), 0, cover.CheckSetup(s), 0, want)
	})
}

func TestPartsOfExamples(t *testing.T) {
	tilted := func(s api.CoverSetup, tilt api.Frac) api.CoverSetup {
		s.Tilt = tilt
		return s
	}
	for _, x := range []struct {
		s    api.CoverSetup
		want api.CoverPart
	}{
		{direct(), from(0, 1, 1, 2)},
		{tilted(direct(), frac(1, 4)), from(0, 1, 1, 4)},
		// More exactly: a part may be one point.
		{skip(1), from(0, 1, 0, 1)},
		{tilted(direct(), frac(0)), from(0, 1, 0, 1)},
		{skip(2), from(0, 1, 1, 2)},
		{skip(3), from(0, 1, 1, 1)},
	} {
		expectAlike(t, fmt.Sprint("PartOf of ", x.s), must(cover.PartOf(slant(), ask(x.s))), x.want)
	}
	// A beam along the face, and a fan to the other side.
	along := direct()
	along.Legs = 2
	away := direct()
	away.Side = -1
	steep := direct()
	steep.Most = frac(1, 2)
	for _, s := range []api.CoverSetup{along, away, steep} {
		p, e := cover.PartOf(slant(), ask(s))
		refused(t, fmt.Sprint("PartOf of ", s), p, e, api.ErrNone)
	}
}

func TestPartsFromWithin(t *testing.T) {
	// Tangents from 5/3 to 2: 1000 + 1000 t is 5/3 to 2 times 1000 - 1000 t from 1/4
	// to 1/3 on.
	s := direct()
	s.Least, s.Most = frac(5, 3), frac(2)
	expectAlike(t, "PartOf", must(cover.PartOf(slant(), ask(s))), from(1, 4, 1, 3))
	// A further face is asked by its number.
	j := slant(api.CoverFace{Name: "g", From: spot(1000, 0), To: spot(0, 1000)})
	expectAlike(t, "PartOf the other way round", must(cover.PartOf(j, api.CoverAsk{Face: 1, Setup: s})), from(2, 3, 3, 4))
}

// More exactly: Least 0 allows a beam straight down; a face may lie on the
// surface or on the back wall; the place (At, 0) itself is never met.
func TestPartsOnTheWalls(t *testing.T) {
	face := func(x, z, x2, z2 int) api.CoverJoint {
		return api.CoverJoint{Name: "v", Thick: 100, Faces: []api.CoverFace{{Name: "f", From: spot(x, z), To: spot(x2, z2)}}}
	}
	down := api.CoverSetup{Name: "a", Side: 1, Legs: 1, Least: frac(0), Most: frac(0), Tilt: frac(0)}
	wide := api.CoverSetup{Name: "a", Side: 1, Legs: 1, Least: frac(0), Most: frac(100), Tilt: frac(100)}
	twice := func(s api.CoverSetup) api.CoverSetup {
		s.Legs = 2
		return s
	}
	for _, x := range []struct {
		j    api.CoverJoint
		s    api.CoverSetup
		want api.CoverPart
	}{
		{face(-100, 100, 300, 100), down, from(1, 4, 1, 4)},
		{face(-100, 100, 300, 100), wide, from(1, 4, 1, 1)},
		{face(-100, 100, 300, 100), twice(wide), from(1, 4, 1, 1)},
		{face(0, 100, 300, 100), down, from(0, 1, 0, 1)},
		{face(-100, 100, 0, 100), wide, from(1, 1, 1, 1)},
		// The surface is seen from below alone.
		{face(-100, 0, 300, 0), twice(down), from(1, 4, 1, 4)},
		{face(-100, 0, 300, 0), twice(wide), from(1, 4, 1, 1)},
	} {
		expectAlike(t, fmt.Sprint("PartOf of ", x.j, x.s), must(cover.PartOf(x.j, ask(x.s))), x.want)
	}
	for _, x := range []struct {
		j api.CoverJoint
		s api.CoverSetup
	}{
		{face(-100, 0, 300, 0), down}, {face(-100, 0, 300, 0), wide}, {face(0, 0, 300, 0), wide}, {face(0, 0, 0, 100), wide},
		{face(0, 0, 100, 100), wide}, {face(0, 0, 0, 100), twice(wide)}, {face(-100, 100, -1, 100), wide}, {face(1, 100, 100, 100), down},
	} {
		p, e := cover.PartOf(x.j, ask(x.s))
		refused(t, fmt.Sprint("PartOf of ", x.j, x.s), p, e, api.ErrNone)
		for _, at := range []api.CoverPoint{point(0, 1), point(1, 4), point(1, 1)} {
			is, e := cover.IsMet(x.j, ask(x.s), at)
			refused(t, "IsMet", is, e, api.OK)
		}
	}
	// A face that begins at (At, 0), but goes through no other beam's way.
	s := wide
	s.At = -10
	expectAlike(t, "PartOf", must(cover.PartOf(face(0, 0, 0, 100), ask(s))), from(1, 1000, 1, 1))
}

func TestIsMet(t *testing.T) {
	for p, want := range map[api.CoverPoint]bool{
		point(0, 1): true, point(1, 3): true, point(1, 2): true, point(501, 1000): false, point(1, 1): false,
		point(499999999999, 1000000000000): true, point(500000000001, 1000000000000): false,
		point(500000000000, 999999999999): false, point(499999999999, 999999999999): true,
	} {
		expectAlike(t, fmt.Sprint("IsMet of ", p), must(cover.IsMet(slant(), ask(direct()), p)), want)
	}
	for p, want := range wrongPoints() {
		is, e := cover.IsMet(slant(), ask(direct()), p)
		refused(t, fmt.Sprint("IsMet of ", p), is, e, want)
	}
}

// P7.7, of points: what is met is told by the definition, from the points of a
// part to those just beside its ends.
func expectExactly(t *testing.T, j api.CoverJoint, x api.CoverAsk) (isMet bool) {
	t.Helper()
	s, isMet := stretchOf(j, x)
	p, e := cover.PartOf(j, x)
	if !isMet {
		refused(t, fmt.Sprint("PartOf of ", j, x), p, e, api.ErrNone)
		p = from(1, 2, 1, 2)
	} else {
		expect(t, fmt.Sprint("PartOf of ", j, x), p, e, s.part(), api.OK)
	}
	tiny := ratio(1, 2000000000)
	first, last := share(p.From), share(p.To)
	for _, at := range []*big.Rat{
		ratio(0, 1), difference(first, tiny), first, sum(first, tiny), middle(first, last), difference(last, tiny), last, sum(last, tiny), ratio(1, 1),
	} {
		if at.Sign() < 0 || at.Cmp(ratio(1, 1)) > 0 || at.Denom().Cmp(big.NewInt(1000000000000)) > 0 {
			continue
		}
		want := meets(j, x, at)
		expectAlike(t, fmt.Sprint("IsMet of ", j, x, at), must(cover.IsMet(j, x, pointOf(at))), want)
		if want != (isMet && first.Cmp(at) <= 0 && at.Cmp(last) <= 0) {
			t.Errorf("%v of %v: %v at %v", x, j, want, at)
		}
	}
	return isMet
}

func TestPartsAreAsDefined(t *testing.T) {
	var n numbers = 4
	counts := map[bool]int{}
	for range 4000 {
		most := []int{5, 100, 20000}[n.from(0, 2)]
		j := n.joint(n.from(1, 2), most)
		x := api.CoverAsk{Face: n.from(0, len(j.Faces)-1), Setup: n.setup(most, []int{3, 9, 100}[n.from(0, 2)])}
		if n.isOnce(2) {
			x.Setup = n.setups(1, most/2)[0]
		}
		counts[expectExactly(t, j, x)]++
	}
	if counts[true] < 1000 || counts[false] < 1000 {
		t.Errorf("%v", counts)
	}
}

// The numbers are as great as they may be.
func TestPartsOfTheGreatestNumbers(t *testing.T) {
	met := 0
	for _, f := range []api.CoverFace{
		{Name: "f", From: spot(-20000, 20000), To: spot(20000, 0)},
		{Name: "f", From: spot(20000, 20000), To: spot(-20000, 0)},
		{Name: "f", From: spot(-20000, 0), To: spot(20000, 1)},
		{Name: "f", From: spot(19999, 19999), To: spot(20000, 20000)},
	} {
		j := api.CoverJoint{Name: "j", Thick: 20000, Zone: 20000, Faces: []api.CoverFace{f}}
		for _, at := range []int{-20000, -19999, 0, 1, 19999, 20000} {
			for bits := range 16 {
				s := api.CoverSetup{Name: "s", At: at, Side: 2*(bits&1) - 1, Legs: 1 + bits>>1&1, Least: frac(1, 100), Most: frac(100), Tilt: frac(99, 100)}
				if bits&4 > 0 {
					s.Least, s.Most = frac(97, 100), frac(100, 99)
				}
				if bits&8 > 0 {
					s.Tilt = frac(100, 99)
				}
				if expectExactly(t, j, ask(s)) {
					met++
				}
			}
		}
	}
	if met < 50 {
		t.Errorf("only %d are met", met)
	}
}

func TestSureParts(t *testing.T) {
	sure := func(s api.CoverSetup, shift int) api.CoverPart {
		return must(cover.SurePart(slant(), ask(s), shift))
	}
	expectAlike(t, "SurePart of the example", sure(direct(), 200), from(0, 1, 9, 20))
	expectAlike(t, "SurePart without a shift", sure(direct(), 0), from(0, 1, 1, 2))
	// At -1010 A is 10000 + 2000000 t, and K 2010000: with the tilt 1/100 t is at most
	// 101/20000. At -990 A is -10000 + 2000000 t: t is up to 299/20000.
	s := direct()
	s.Tilt = frac(1, 100)
	expectAlike(t, "SurePart of a small tilt", sure(s, 10), from(0, 1, 101, 20000))
	// At -1030 A is 30000 + 2000000 t, beyond 20300.
	p, e := cover.SurePart(slant(), ask(s), 30)
	refused(t, "SurePart of a part without points", p, e, api.ErrNone)
	// One end of the shift meets nothing.
	s = direct()
	s.Least = frac(2)
	p, e = cover.SurePart(slant(), ask(s), 5000)
	refused(t, "SurePart", p, e, api.ErrNone)
	p, e = cover.SurePart(slant(), ask(skip(0)), 5000)
	refused(t, "SurePart", p, e, api.ErrNone)
}

// From both sides of a face the parts have points in common, but K is above 0 on
// one side alone; a set-up between them looks along the face.
func TestSurePartsOfBothSides(t *testing.T) {
	j := api.CoverJoint{Name: "j", Thick: 100, Faces: []api.CoverFace{{Name: "f", From: spot(100, 50), To: spot(100, 100)}}}
	s := api.CoverSetup{Name: "s", At: 100, Side: 1, Legs: 1, Least: frac(0), Most: frac(100), Tilt: frac(100)}
	for _, at := range []int{90, 99} {
		s.At = at
		for shift, want := range map[int]bool{99 - at: true, 100 - at: false, 101 - at: false, 5000: false} {
			p, e := cover.SurePart(j, ask(s), shift)
			if want {
				expect(t, "SurePart", p, e, must(cover.PartOf(j, ask(s))), api.OK)
			} else {
				refused(t, "SurePart", p, e, api.ErrNone)
			}
		}
	}
	// The face leans: at 0 its line leaves the surface.
	j.Faces[0] = api.CoverFace{Name: "f", From: spot(50, 50), To: spot(100, 100)}
	s.At = 0
	first, last := s, s
	first.At, last.At = -20, 20
	expectAlike(t, "PartOf", must(cover.PartOf(j, ask(first))), from(0, 1, 1, 1))
	expectAlike(t, "PartOf", must(cover.PartOf(j, ask(last))), from(0, 1, 1, 1))
	p, e := cover.SurePart(j, ask(s), 20)
	refused(t, "SurePart of both sides", p, e, api.ErrNone)
	p, e = cover.SurePart(j, ask(s), 0)
	refused(t, "SurePart along the face", p, e, api.ErrNone)
}

func TestErrorsOfShifts(t *testing.T) {
	for _, x := range []struct {
		at, shift int
		want      api.Errno
	}{
		{0, -1, api.ErrRange}, {0, 5001, api.ErrRange}, {0, huge, api.ErrRange}, {0, -huge - 1, api.ErrRange},
		{20000, 1, api.ErrRange}, {-20000, 1, api.ErrRange}, {15001, 5000, api.ErrRange}, {-15001, 5000, api.ErrRange},
		{20000, huge, api.ErrRange}, {20000, 0, api.ErrNone}, {15000, 5000, api.ErrNone}, {-15000, 5000, api.ErrNone}, {-20000, 0, api.ErrNone},
	} {
		s := direct()
		s.At, s.Most = x.at, frac(1)
		p, e := cover.SurePart(slant(), ask(s), x.shift)
		refused(t, fmt.Sprint("SurePart of ", x), p, e, x.want)
	}
}

// The errors of the joint come first, then those of the face, and of the set-up.
func TestErrorsOfAsks(t *testing.T) {
	refuse := func(j api.CoverJoint, x api.CoverAsk, want api.Errno) {
		t.Helper()
		is, e := cover.IsMet(j, x, api.CoverPoint{})
		refused(t, "IsMet", is, e, want)
		p, e := cover.PartOf(j, x)
		refused(t, "PartOf", p, e, want)
		p, e = cover.SurePart(j, x, -1)
		refused(t, "SurePart", p, e, want)
	}
	for want, j := range wrongJoints() {
		refuse(j, api.CoverAsk{Face: -1}, want)
	}
	for _, face := range []int{-1, 1, huge, -huge - 1} {
		refuse(slant(), api.CoverAsk{Face: face}, api.ErrMissing)
	}
	for want, s := range wrongSetups() {
		refuse(slant(), ask(s), want)
	}
}

// P7.7, of sure parts

func TestSurePartsAreAsDefined(t *testing.T) {
	var n numbers = 5
	sure := 0
	for range 3000 {
		most := []int{40, 1000, 10000}[n.from(0, 2)]
		j := n.joint(1, most)
		x := ask(n.setups(1, most/2)[0])
		shift := n.from(0, min(5000, most/3))
		var k [2]int
		var met [2]stretch
		isMet := true
		for n, at := range []int{x.Setup.At - shift, x.Setup.At + shift} {
			y := x
			y.Setup.At = at
			part, isSome := stretchOf(j, y)
			met[n], k[n] = part, sightOf(j, y, ratio(0, 1)).k.Sign()
			isMet = isMet && isSome
		}
		if isMet && met[0].from.Cmp(met[1].from) < 0 {
			met[0].from = met[1].from
		}
		if isMet && met[0].to.Cmp(met[1].to) > 0 {
			met[0].to = met[1].to
		}
		p, e := cover.SurePart(j, x, shift)
		if !isMet || k[0] != k[1] || met[0].from.Cmp(met[0].to) > 0 {
			refused(t, fmt.Sprint("SurePart of ", j, x), p, e, api.ErrNone)
			continue
		}
		expect(t, fmt.Sprint("SurePart of ", j, x), p, e, met[0].part(), api.OK)
		sure++
		expectSure(t, j, x, shift, p, &n)
	}
	if sure < 500 || sure > 2500 {
		t.Errorf("%d are sure", sure)
	}
}

// expectSure expects that the sure part lies in the part of each set-up that
// stands at most the shift away.
func expectSure(t *testing.T, j api.CoverJoint, x api.CoverAsk, shift int, sure api.CoverPart, n *numbers) {
	t.Helper()
	at := x.Setup.At
	for range 6 {
		x.Setup.At = n.from(at-shift, at+shift)
		part := must(cover.PartOf(j, x))
		if share(part.From).Cmp(share(sure.From)) > 0 || share(part.To).Cmp(share(sure.To)) < 0 {
			t.Errorf("%v is sure, but the set-up at %d meets %v", sure, x.Setup.At, part)
		}
		for _, p := range []api.CoverPoint{sure.From, sure.To} {
			expectAlike(t, "IsMet of what is sure", must(cover.IsMet(j, x, p)), true)
		}
	}
}

// P7.10

// moved returns a joint and set-ups that are moved along the surface, and then
// turned to the opposite X and side, or not.
func moved(j api.CoverJoint, l []api.CoverSetup, by, side int) (api.CoverJoint, []api.CoverSetup) {
	x := j
	x.Faces = nil
	for _, f := range j.Faces {
		f.From.X, f.To.X = side*(f.From.X+by), side*(f.To.X+by)
		x.Faces = append(x.Faces, f)
	}
	var setups []api.CoverSetup
	for _, s := range l {
		s.At, s.Side = side*(s.At+by), side*s.Side
		setups = append(setups, s)
	}
	return x, setups
}

func TestMirroredAndMoved(t *testing.T) {
	var n numbers = 6
	met := 0
	for range 1000 {
		j := n.joint(n.from(1, 3), []int{20, 1000}[n.from(0, 1)])
		l := append(n.setups(2, j.Thick), n.setup(2*j.Thick, 100))
		for _, side := range []int{1, -1} {
			x, setups := moved(j, l, n.from(-900, 900), side)
			for face := range j.Faces {
				for k := range l {
					p, e := cover.PartOf(j, api.CoverAsk{Face: face, Setup: l[k]})
					q, f := cover.PartOf(x, api.CoverAsk{Face: face, Setup: setups[k]})
					expect(t, "PartOf", q, f, p, e)
					if e == api.OK {
						met++
					}
				}
				l[2].Name, setups[2].Name = "other", "other"
				p, e := cover.FirstGap(j, face, l)
				q, f := cover.FirstGap(x, face, setups)
				expect(t, "FirstGap", q, f, p, e)
			}
		}
	}
	if met < 1000 {
		t.Errorf("only %d are met", met)
	}
}
