package cover_test

import (
	"fmt"
	"math/big"
	"strings"
	"testing"

	"couplant/api"
	"couplant/cover"
)

// P7.1

func TestCheckJoint(t *testing.T) {
	for _, x := range []struct {
		spoil func(j *api.CoverJoint)
		n     int
		want  api.Errno
	}{
		{func(j *api.CoverJoint) {}, 0, api.OK},
		{func(j *api.CoverJoint) { j.Faces = nil }, 0, api.OK},
		{func(j *api.CoverJoint) { j.Faces = []api.CoverFace{} }, 0, api.OK},
		{func(j *api.CoverJoint) { j.Thick = 20000 }, 0, api.OK},
		{func(j *api.CoverJoint) { j.Zone = 20000 }, 0, api.OK},
		{func(j *api.CoverJoint) { j.Name = "v-0" }, 0, api.OK},
		{func(j *api.CoverJoint) { j.Faces[1].Name = "abcdefghijkl" }, 0, api.OK},
		// The joint and a face may have the same name, and two faces the same places.
		{func(j *api.CoverJoint) { j.Faces[1].Name = j.Name }, 0, api.OK},
		{func(j *api.CoverJoint) { j.Faces[1].From, j.Faces[1].To = j.Faces[0].From, j.Faces[0].To }, 0, api.OK},
		{func(j *api.CoverJoint) { j.Faces[1].From, j.Faces[1].To = spot(-20000, 0), spot(20000, 1000) }, 0, api.OK},
		// More exactly: a face may lie on the surface or on the back wall.
		{func(j *api.CoverJoint) { j.Faces[0].From.Z, j.Faces[1].To.Z = 0, 0 }, 0, api.OK},
		{func(j *api.CoverJoint) { j.Faces[0].To.Z, j.Faces[1].From.Z = 1000, 1000 }, 0, api.OK},
		{func(j *api.CoverJoint) { j.Thick, j.Faces = 1, nil }, 0, api.OK},
		{func(j *api.CoverJoint) { j.Name = "" }, 0, api.ErrName},
		{func(j *api.CoverJoint) { j.Name = "0" }, 0, api.ErrName},
		{func(j *api.CoverJoint) { j.Name = strings.Repeat("v", 13) }, 0, api.ErrName},
		{func(j *api.CoverJoint) { j.Thick = 0 }, 0, api.ErrRange},
		{func(j *api.CoverJoint) { j.Thick = 20001 }, 0, api.ErrRange},
		{func(j *api.CoverJoint) { j.Thick = -huge - 1 }, 0, api.ErrRange},
		{func(j *api.CoverJoint) { j.Zone = -1 }, 0, api.ErrRange},
		{func(j *api.CoverJoint) { j.Zone = 20001 }, 0, api.ErrRange},
		{func(j *api.CoverJoint) { j.Zone = huge }, 0, api.ErrRange},
		{func(j *api.CoverJoint) { j.Faces = make([]api.CoverFace, 12) }, 0, api.ErrName},
		{func(j *api.CoverJoint) { j.Faces = make([]api.CoverFace, 13) }, 0, api.ErrLarge},
		{func(j *api.CoverJoint) { j.Faces[1].Name = "a b" }, 1, api.ErrName},
		{func(j *api.CoverJoint) { j.Faces[1].Name = "f" }, 1, api.ErrExists},
		{func(j *api.CoverJoint) { j.Faces = append(j.Faces, j.Faces[1]) }, 2, api.ErrExists},
		{func(j *api.CoverJoint) { j.Faces[0].From.X = 20001 }, 0, api.ErrRange},
		{func(j *api.CoverJoint) { j.Faces[1].From.X = -20001 }, 1, api.ErrRange},
		{func(j *api.CoverJoint) { j.Faces[1].From.X = -huge - 1 }, 1, api.ErrRange},
		{func(j *api.CoverJoint) { j.Faces[1].To.X = 20001 }, 1, api.ErrRange},
		{func(j *api.CoverJoint) { j.Faces[1].To.X = -20001 }, 1, api.ErrRange},
		{func(j *api.CoverJoint) { j.Faces[1].From.Z = -1 }, 1, api.ErrRange},
		{func(j *api.CoverJoint) { j.Faces[1].From.Z = 1001 }, 1, api.ErrRange},
		{func(j *api.CoverJoint) { j.Faces[1].To.Z = -1 }, 1, api.ErrRange},
		{func(j *api.CoverJoint) { j.Faces[1].To.Z = 1001 }, 1, api.ErrRange},
		{func(j *api.CoverJoint) { j.Faces[1].To.Z = huge }, 1, api.ErrRange},
		{func(j *api.CoverJoint) { j.Thick = 999 }, 0, api.ErrRange},
		{func(j *api.CoverJoint) { j.Faces[0].To = j.Faces[0].From }, 0, api.ErrZero},
		{func(j *api.CoverJoint) { j.Faces[1].To = j.Faces[1].From }, 1, api.ErrZero},
	} {
		j := slant(api.CoverFace{Name: "g", From: spot(5, 5), To: spot(5, 6)})
		x.spoil(&j)
		n, e := cover.CheckJoint(j)
		expect(t, fmt.Sprint("CheckJoint of ", j), n, e, x.n, x.want)
	}
}

func TestHowManyFacesThereAre(t *testing.T) {
	var n numbers = 1
	for faces, want := range map[int]api.Errno{0: api.OK, 1: api.OK, 12: api.OK, 13: api.ErrLarge} {
		number, e := cover.CheckJoint(n.joint(faces, 1000))
		expect(t, "CheckJoint of many faces", number, e, 0, want)
	}
}

func TestErrorsOfJointsInOrder(t *testing.T) {
	face := func(n int) func(j *api.CoverJoint) *api.CoverFace {
		return func(j *api.CoverJoint) *api.CoverFace { return &j.Faces[n] }
	}
	first, second := face(0), face(1)
	faults := []fault[api.CoverJoint]{
		{func(j *api.CoverJoint) { j.Name = "-" }, 0, api.ErrName},
		{func(j *api.CoverJoint) { j.Zone = 20001 }, 0, api.ErrRange},
		{func(j *api.CoverJoint) { j.Faces = append(j.Faces, make([]api.CoverFace, 11)...) }, 0, api.ErrLarge},
		{func(j *api.CoverJoint) { first(j).To = first(j).From }, 0, api.ErrZero},
		{func(j *api.CoverJoint) { second(j).Name = "" }, 1, api.ErrName},
		{func(j *api.CoverJoint) { second(j).Name = "f" }, 1, api.ErrExists},
		{func(j *api.CoverJoint) { second(j).To.Z = -1 }, 1, api.ErrRange},
		{func(j *api.CoverJoint) { second(j).To = second(j).From }, 1, api.ErrZero},
		{func(j *api.CoverJoint) { j.Faces = append(j.Faces, api.CoverFace{}) }, 2, api.ErrName},
	}
	fresh := func() api.CoverJoint {
		return slant(api.CoverFace{Name: "g", From: spot(5, 5), To: spot(5, 6)})
	}
	eachFault(fresh, faults, func(j api.CoverJoint, n int, want api.Errno) {
		got, e := cover.CheckJoint(j)
		expect(t, fmt.Sprint("CheckJoint of ", j), got, e, n, want)
	})
	// A wrong place is told ahead of one that is the same.
	j := slant(api.CoverFace{Name: "g", From: spot(5, -1), To: spot(5, -1)})
	n, e := cover.CheckJoint(j)
	expect(t, "CheckJoint", n, e, 1, api.ErrRange)
}

// vee is the bevelled joint of the chapter's example.
func vee() api.CoverBevel {
	return api.CoverBevel{Name: "w", Thick: 1000, Zone: 7, HalfGap: 100, Land: 200, Tangent: frac(1, 2)}
}

func TestBevelled(t *testing.T) {
	land := func(name string, x int) api.CoverFace {
		return api.CoverFace{Name: name + "-land", From: spot(x, 1000), To: spot(x, 800)}
	}
	bevel := func(name string, x, z, top int) api.CoverFace {
		return api.CoverFace{Name: name + "-bevel", From: spot(x, z), To: spot(top, 0)}
	}
	for _, x := range []struct {
		spoil func(b *api.CoverBevel)
		want  []api.CoverFace
	}{
		{func(b *api.CoverBevel) {}, []api.CoverFace{
			land("l", -100), bevel("l", -100, 800, -500), land("r", 100), bevel("r", 100, 800, 500),
		}},
		{func(b *api.CoverBevel) { b.Land = 0 }, []api.CoverFace{
			bevel("l", -100, 1000, -600), bevel("r", 100, 1000, 600),
		}},
		{func(b *api.CoverBevel) { b.Land = 1000 }, []api.CoverFace{
			{Name: "l-land", From: spot(-100, 1000), To: spot(-100, 0)},
			{Name: "r-land", From: spot(100, 1000), To: spot(100, 0)},
		}},
		{func(b *api.CoverBevel) { b.Tangent = frac(0) }, []api.CoverFace{
			land("l", -100), bevel("l", -100, 800, -100), land("r", 100), bevel("r", 100, 800, 100),
		}},
		{func(b *api.CoverBevel) { b.HalfGap = 0 }, []api.CoverFace{
			land("l", 0), bevel("l", 0, 800, -400), land("r", 0), bevel("r", 0, 800, 400),
		}},
		// 800 times 2/3 is 533 1/3, rounded down, to the left, too.
		{func(b *api.CoverBevel) { b.Tangent = frac(2, 3) }, []api.CoverFace{
			land("l", -100), bevel("l", -100, 800, -633), land("r", 100), bevel("r", 100, 800, 633),
		}},
		{func(b *api.CoverBevel) { b.Tangent = frac(99, 100) }, []api.CoverFace{
			land("l", -100), bevel("l", -100, 800, -892), land("r", 100), bevel("r", 100, 800, 892),
		}},
	} {
		b := vee()
		x.spoil(&b)
		want := api.CoverJoint{Name: "w", Thick: 1000, Zone: 7, Faces: x.want}
		expectAlike(t, "Bevelled", must(cover.Bevelled(b)), want)
		n, e := cover.CheckJoint(want)
		expect(t, "CheckJoint", n, e, 0, api.OK)
	}
}

func TestBevelledRefuses(t *testing.T) {
	for _, x := range []struct {
		spoil func(b *api.CoverBevel)
		want  api.Errno
	}{
		{func(b *api.CoverBevel) { b.Thick, b.Land, b.Zone, b.HalfGap = 20000, 20000, 20000, 20000 }, api.OK},
		{func(b *api.CoverBevel) { b.Thick, b.Land = 1, 1 }, api.OK},
		{func(b *api.CoverBevel) { b.Tangent = frac(199, 10) }, api.ErrRange},
		{func(b *api.CoverBevel) { b.Tangent = frac(100) }, api.ErrLarge},
		{func(b *api.CoverBevel) { b.HalfGap, b.Tangent = 19900, frac(1, 8) }, api.OK},
		{func(b *api.CoverBevel) { b.HalfGap, b.Tangent = 19901, frac(1, 8) }, api.ErrLarge},
		{func(b *api.CoverBevel) { b.HalfGap, b.Tangent, b.Land = 19900, frac(1, 8), 193 }, api.OK},
		{func(b *api.CoverBevel) { b.HalfGap, b.Tangent, b.Land = 19900, frac(1, 8), 192 }, api.ErrLarge},
		{func(b *api.CoverBevel) { b.Name = "" }, api.ErrName},
		{func(b *api.CoverBevel) { b.Thick = 0 }, api.ErrRange},
		{func(b *api.CoverBevel) { b.Thick = 20001 }, api.ErrRange},
		{func(b *api.CoverBevel) { b.Thick = huge }, api.ErrRange},
		{func(b *api.CoverBevel) { b.Zone = -1 }, api.ErrRange},
		{func(b *api.CoverBevel) { b.Zone = 20001 }, api.ErrRange},
		{func(b *api.CoverBevel) { b.HalfGap = -1 }, api.ErrRange},
		{func(b *api.CoverBevel) { b.HalfGap = 20001 }, api.ErrRange},
		{func(b *api.CoverBevel) { b.HalfGap = -huge - 1 }, api.ErrRange},
		{func(b *api.CoverBevel) { b.Land = -1 }, api.ErrRange},
		{func(b *api.CoverBevel) { b.Land = 1001 }, api.ErrRange},
		{func(b *api.CoverBevel) { b.Tangent = frac(2, 4) }, api.ErrForm},
		{func(b *api.CoverBevel) { b.Tangent = frac(0, 2) }, api.ErrForm},
		{func(b *api.CoverBevel) { b.Tangent = frac(1, 0) }, api.ErrForm},
		{func(b *api.CoverBevel) { b.Tangent = frac(-1, -2) }, api.ErrForm},
		{func(b *api.CoverBevel) { b.Tangent = api.Frac{} }, api.ErrForm},
		{func(b *api.CoverBevel) { b.Tangent = frac(-1, 2) }, api.ErrRange},
		{func(b *api.CoverBevel) { b.Tangent = frac(101, 2) }, api.ErrRange},
		{func(b *api.CoverBevel) { b.Tangent = frac(1, 101) }, api.ErrRange},
		{func(b *api.CoverBevel) { b.Tangent = frac(huge, huge-1) }, api.ErrRange},
	} {
		b := vee()
		x.spoil(&b)
		j, e := cover.Bevelled(b)
		if x.want != api.OK {
			refused(t, fmt.Sprint("Bevelled of ", b), j, e, x.want)
			continue
		}
		n, f := cover.CheckJoint(j)
		expect(t, "CheckJoint", n, f, 0, e)
	}
	faults := []fault[api.CoverBevel]{
		{func(b *api.CoverBevel) { b.Name = "-" }, 0, api.ErrName},
		{func(b *api.CoverBevel) { b.Land = 1001 }, 0, api.ErrRange},
		{func(b *api.CoverBevel) { b.Tangent.Num *= 2 }, 0, api.ErrForm},
		{func(b *api.CoverBevel) { b.Tangent.Num = 101 }, 0, api.ErrRange},
		{func(b *api.CoverBevel) { b.HalfGap = 19999 }, 0, api.ErrLarge},
	}
	eachFault(vee, faults, func(b api.CoverBevel, _ int, want api.Errno) {
		j, e := cover.Bevelled(b)
		refused(t, fmt.Sprint("Bevelled of ", b), j, e, want)
	})
}

func TestSpotAt(t *testing.T) {
	j := must(cover.Bevelled(vee()))
	j.Faces = append(j.Faces, api.CoverFace{Name: "g", From: spot(3, 0), To: spot(0, 3)}, api.CoverFace{Name: "h", From: spot(-3, 2), To: spot(0, 1)})
	for _, x := range []struct {
		face int
		p    api.CoverPoint
		want api.Spot
	}{
		{0, point(0, 1), spot(-100, 1000)}, {0, point(1, 1), spot(-100, 800)}, {0, point(1, 3), spot(-100, 933)},
		{1, point(0, 1), spot(-100, 800)}, {1, point(1, 1), spot(-500, 0)}, {1, point(1, 3), spot(-233, 533)},
		// Halves go up, also where the way or the place is below 0.
		{1, point(1, 1600), spot(-100, 800)}, {1, point(3, 800), spot(-101, 797)}, {1, point(1, 800), spot(-100, 799)},
		{4, point(1, 2), spot(2, 2)}, {4, point(1, 6), spot(3, 1)}, {4, point(5, 6), spot(1, 3)},
		{5, point(1, 2), spot(-1, 2)}, {5, point(1, 6), spot(-2, 2)}, {5, point(5, 6), spot(0, 1)},
		{1, point(1, 1000000000000), spot(-100, 800)}, {1, point(999999999999, 1000000000000), spot(-500, 0)},
	} {
		expectAlike(t, fmt.Sprint("SpotAt of ", x), must(cover.SpotAt(j, x.face, x.p)), x.want)
	}
	for p, want := range wrongPoints() {
		at, e := cover.SpotAt(j, 0, p)
		refused(t, "SpotAt", at, e, want)
	}
	for _, face := range []int{-1, 6, huge, -huge - 1} {
		at, e := cover.SpotAt(j, face, api.CoverPoint{})
		refused(t, "SpotAt of no face", at, e, api.ErrMissing)
	}
	at, e := cover.SpotAt(api.CoverJoint{Name: "v", Thick: 1}, 0, point(0, 1))
	refused(t, "SpotAt without faces", at, e, api.ErrMissing)
	for want, wrong := range wrongJoints() {
		at, e := cover.SpotAt(wrong, -1, api.CoverPoint{})
		refused(t, "SpotAt of a wrong joint", at, e, want)
	}
}

// down returns a number rounded down.
func down(r *big.Rat) int {
	return int(new(big.Int).Div(r.Num(), r.Denom()).Int64())
}

func TestSpotAtIsAsDefined(t *testing.T) {
	var n numbers = 2
	for range 2000 {
		j := n.joint(1, []int{9, 1000, 20000}[n.from(0, 2)])
		den := n.from(1, []int{4, 1000, 1000000000000}[n.from(0, 2)])
		at := ratio(n.from(0, den), den)
		p := placeOf(j.Faces[0].From).at(placeOf(j.Faces[0].To), at)
		want := spot(down(sum(p.x, ratio(1, 2))), down(sum(p.z, ratio(1, 2))))
		expectAlike(t, "SpotAt", must(cover.SpotAt(j, 0, pointOf(at))), want)
	}
}

func TestInZone(t *testing.T) {
	j := slant(api.CoverFace{Name: "g", From: spot(2000, 300), To: spot(2000, 600)})
	j.Zone = 50
	for _, x := range []struct {
		p    api.Spot
		want bool
	}{
		{spot(500, 500), true}, {spot(0, 1000), true}, {spot(1000, 0), true},
		// The slanted one is a little more than 35 away along X and Z.
		{spot(535, 535), true}, {spot(536, 535), false}, {spot(465, 465), true}, {spot(465, 464), false},
		// Behind its end, outside of the plate, and beside the other face.
		{spot(1050, 0), true}, {spot(1051, 0), false}, {spot(1000, -1), false}, {spot(0, 1001), false}, {spot(-50, 1000), true},
		{spot(2050, 450), true}, {spot(2051, 450), false}, {spot(1950, 300), true}, {spot(1949, 300), false},
		{spot(2000, 250), true}, {spot(2000, 249), false}, {spot(2000, 650), true}, {spot(2000, 651), false},
		{spot(2030, 260), true}, {spot(2031, 260), false}, {spot(2030, 259), false}, {spot(1960, 630), true}, {spot(1960, 631), false},
		{spot(100000, 500), false}, {spot(-100000, 500), false}, {spot(500, 100000), false}, {spot(500, -100000), false},
	} {
		expectAlike(t, fmt.Sprint("InZone of ", x.p), must(cover.InZone(j, x.p)), x.want)
	}
	j.Zone = 0
	for p, want := range map[api.Spot]bool{spot(500, 500): true, spot(0, 1000): true, spot(500, 501): false, spot(-1, 1000): false, spot(2000, 600): true} {
		expectAlike(t, "InZone of a zone of 0", must(cover.InZone(j, p)), want)
	}
	j.Faces = nil
	expectAlike(t, "InZone without faces", must(cover.InZone(j, spot(0, 0))), false)
	for _, p := range []api.Spot{spot(100001, 0), spot(-100001, 0), spot(0, 100001), spot(0, -100001), spot(huge, huge), spot(-huge-1, -huge-1)} {
		in, e := cover.InZone(j, p)
		refused(t, "InZone", in, e, api.ErrRange)
	}
	for want, wrong := range wrongJoints() {
		in, e := cover.InZone(wrong, spot(huge, 0))
		refused(t, "InZone of a wrong joint", in, e, want)
	}
}

// isNear returns whether a place is at most so far from a face, by definition:
// from the point that is next to it.
func isNear(f api.CoverFace, p api.Spot, zone int) bool {
	from, to := placeOf(f.From), placeOf(f.To)
	w := from.way(to)
	t := quotient(w.dot(from.way(placeOf(p))), w.dot(w))
	if t.Sign() < 0 {
		t = ratio(0, 1)
	}
	if t.Cmp(ratio(1, 1)) > 0 {
		t = ratio(1, 1)
	}
	d := from.at(to, t).way(placeOf(p))
	return d.dot(d).Cmp(ratio(zone*zone, 1)) <= 0
}

func TestInZoneIsAsDefined(t *testing.T) {
	var n numbers = 3
	counts := map[bool]int{}
	for range 6000 {
		most := []int{9, 1000, 20000}[n.from(0, 2)]
		j := n.joint(n.from(0, 3), most)
		j.Zone = n.from(0, most/2)
		p := spot(n.from(-most, most), n.from(-1, j.Thick+1))
		if n.isOnce(4) {
			p.X = n.from(-100000, 100000)
		}
		want := false
		for _, f := range j.Faces {
			want = want || isNear(f, p, j.Zone) && p.Z >= 0 && p.Z <= j.Thick
		}
		expectAlike(t, "InZone", must(cover.InZone(j, p)), want)
		counts[want]++
	}
	if counts[true] < 500 || counts[false] < 500 {
		t.Errorf("%v", counts)
	}
}

func TestInZoneOfTheGreatestNumbers(t *testing.T) {
	j := api.CoverJoint{Name: "j", Thick: 20000, Zone: 20000, Faces: []api.CoverFace{{Name: "f", From: spot(-20000, 0), To: spot(20000, 20000)}}}
	for p, want := range map[api.Spot]bool{
		spot(100000, 20000): false, spot(-100000, 0): false, spot(40000, 20000): true, spot(40001, 20000): false,
		spot(22360, 0): isNear(j.Faces[0], spot(22360, 0), 20000), spot(24720, 0): true, spot(24722, 0): false,
	} {
		expectAlike(t, fmt.Sprint("InZone of ", p), must(cover.InZone(j, p)), want)
	}
	j.Faces[0] = api.CoverFace{Name: "f", From: spot(-20000, 20000), To: spot(-19999, 0)}
	for _, p := range []api.Spot{spot(100000, 10000), spot(0, 10000), spot(1, 10000), spot(99999, 3)} {
		expectAlike(t, fmt.Sprint("InZone of ", p), must(cover.InZone(j, p)), isNear(j.Faces[0], p, 20000))
	}
}
