package cover_test

import (
	"fmt"
	"math"
	"math/big"
	"slices"
	"testing"

	"couplant/api"
	"couplant/cover"
	"couplant/whole"
)

// huge is the greatest number there is.
const huge = math.MaxInt

// expect compares a result and an error with the ones that are promised. As
// texts, nil and an empty list are the same.
func expect[T any](t *testing.T, what string, got T, e api.Errno, want T, f api.Errno) {
	t.Helper()
	if fmt.Sprint(got) != fmt.Sprint(want) || e != f {
		t.Errorf("%s: %v, error %d; want %v, error %d", what, got, e, want, f)
	}
}

// expectAlike compares two results that are without an error.
func expectAlike[T any](t *testing.T, what string, got, want T) {
	t.Helper()
	expect(t, what, got, api.OK, want, api.OK)
}

// refused expects an error, and beside it the zero value.
func refused[T any](t *testing.T, what string, got T, e, want api.Errno) {
	t.Helper()
	var zero T
	expect(t, what, got, e, zero, want)
}

// must returns a result that has no error.
func must[T any](result T, e api.Errno) T {
	if e != api.OK {
		panic(fmt.Sprint("error ", e))
	}
	return result
}

// frac returns a fraction, a whole number if it has one part alone.
func frac(parts ...int) api.Frac {
	return api.Frac{Num: parts[0], Den: append(parts, 1)[1]}
}

func point(num, den int) api.CoverPoint { return api.CoverPoint{Num: num, Den: den} }

func spot(x, z int) api.Spot { return api.Spot{X: x, Z: z} }

// from returns the part of two points.
func from(num, den, num2, den2 int) api.CoverPart {
	return api.CoverPart{From: point(num, den), To: point(num2, den2)}
}

// slant is the joint of the chapter's examples, with further faces, if there are
// any.
func slant(faces ...api.CoverFace) api.CoverJoint {
	all := []api.CoverFace{{Name: "f", From: spot(0, 1000), To: spot(1000, 0)}}
	return api.CoverJoint{Name: "v", Thick: 1000, Faces: append(all, faces...)}
}

// direct is the set-up of the chapter's first example, skip that of the third one.
func direct() api.CoverSetup {
	return api.CoverSetup{Name: "a", At: -1000, Side: 1, Legs: 1, Least: frac(0), Most: frac(3), Tilt: frac(1)}
}

func skip(tilt int) api.CoverSetup {
	return api.CoverSetup{Name: "b", Side: 1, Legs: 2, Least: frac(0), Most: frac(3), Tilt: frac(tilt)}
}

// ask returns the ask of a set-up for the first face.
func ask(s api.CoverSetup) api.CoverAsk { return api.CoverAsk{Setup: s} }

// named returns set-ups with names of their own.
func named(l ...api.CoverSetup) []api.CoverSetup {
	l = slices.Clone(l)
	for n := range l {
		l[n].Name = fmt.Sprint("s", n)
	}
	return l
}

// numbers makes the same numbers in each run of the tests.
type numbers uint64

// from returns a number from least to most.
func (n *numbers) from(least, most int) int {
	*n = *n*6364136223846793005 + 1442695040888963407
	return least + int(uint64(*n>>33)%uint64(most-least+1))
}

// isOnce returns true once in so many times.
func (n *numbers) isOnce(times int) bool {
	return n.from(1, times) == 1
}

// tangent returns a tangent whose parts are at most so great.
func (n *numbers) tangent(most int) api.Frac {
	return whole.LowestTerms(n.from(0, most), n.from(1, most))
}

// joint returns a joint with some faces, whose places are at most so far away.
func (n *numbers) joint(faces, most int) api.CoverJoint {
	j := api.CoverJoint{Name: "j", Thick: n.from(1, most), Zone: n.from(0, most)}
	for len(j.Faces) < faces {
		f := api.CoverFace{
			Name: fmt.Sprint("f", len(j.Faces)),
			From: spot(n.from(-most, most), n.from(0, j.Thick)),
			To:   spot(n.from(-most, most), n.from(0, j.Thick)),
		}
		if n.isOnce(20) {
			f.From.Z, f.To.Z = 0, 0
		}
		if n.isOnce(20) {
			f.From.Z, f.To.Z = j.Thick, j.Thick
		}
		if f.From != f.To {
			j.Faces = append(j.Faces, f)
		}
	}
	return j
}

// setup returns a set-up whose place and tangents are at most so great.
func (n *numbers) setup(most, tangent int) api.CoverSetup {
	s := api.CoverSetup{
		Name: "s", At: n.from(-most, most), Side: 2*n.from(0, 1) - 1, Legs: n.from(1, 2),
		Least: n.tangent(tangent), Most: n.tangent(tangent), Tilt: n.tangent(tangent),
	}
	if n.isOnce(2) {
		s.Least = frac(0)
	}
	if ratio(s.Least.Num, s.Least.Den).Cmp(ratio(s.Most.Num, s.Most.Den)) > 0 {
		s.Least, s.Most = s.Most, s.Least
	}
	return s
}

// setups returns set-ups that meet most of what lies to their side, if not too
// far away.
func (n *numbers) setups(count, most int) []api.CoverSetup {
	var l []api.CoverSetup
	for range count {
		s := n.setup(2*most, 9)
		s.Least, s.Most, s.Tilt = frac(0), frac(n.from(1, 9)), frac(n.from(1, 9))
		if s.At > 0 {
			s.Side = -1
		}
		l = append(l, s)
	}
	return named(l...)
}

// ratio returns a / b.
func ratio(a, b int) *big.Rat { return big.NewRat(int64(a), int64(b)) }

func sum(a, b *big.Rat) *big.Rat        { return new(big.Rat).Add(a, b) }
func difference(a, b *big.Rat) *big.Rat { return new(big.Rat).Sub(a, b) }
func product(a, b *big.Rat) *big.Rat    { return new(big.Rat).Mul(a, b) }
func quotient(a, b *big.Rat) *big.Rat   { return new(big.Rat).Quo(a, b) }

// share returns the share of a point.
func share(p api.CoverPoint) *big.Rat { return ratio(p.Num, p.Den) }

// pointOf returns the point of a share.
func pointOf(r *big.Rat) api.CoverPoint {
	return point(int(r.Num().Int64()), int(r.Denom().Int64()))
}

// place is a place, or a way, whose numbers need not be whole ones.
type place struct{ x, z *big.Rat }

func placeOf(p api.Spot) place { return place{ratio(p.X, 1), ratio(p.Z, 1)} }

// way returns the way from p to q.
func (p place) way(q place) place {
	return place{difference(q.x, p.x), difference(q.z, p.z)}
}

// at returns the place of a share of the way from p to q.
func (p place) at(q place, t *big.Rat) place {
	w := p.way(q)
	return place{sum(p.x, product(t, w.x)), sum(p.z, product(t, w.z))}
}

// dot returns w.x d.x + w.z d.z.
func (w place) dot(d place) *big.Rat {
	return sum(product(w.x, d.x), product(w.z, d.z))
}

// sight is what the chapter's conditions of being met ask, at some share.
type sight struct{ k, a, across, down *big.Rat }

// sightOf returns this by definition.
func sightOf(j api.CoverJoint, x api.CoverAsk, t *big.Rat) sight {
	f := j.Faces[x.Face]
	p, q := placeOf(f.From), placeOf(f.To)
	at := p.at(q, t)
	if x.Setup.Legs == 2 {
		twice := ratio(2*j.Thick, 1)
		p.z, q.z, at.z = difference(twice, p.z), difference(twice, q.z), difference(twice, at.z)
	}
	w, d := p.way(q), placeOf(spot(x.Setup.At, 0)).way(at)
	return sight{
		difference(product(w.x, d.z), product(w.z, d.x)), w.dot(d),
		product(ratio(x.Setup.Side, 1), d.x), d.z,
	}
}

// meets returns whether a set-up meets the point of a share, by definition.
func meets(j api.CoverJoint, x api.CoverAsk, t *big.Rat) bool {
	for _, kept := range conditions(j, x, t) {
		if kept.Sign() < 0 {
			return false
		}
	}
	return sightOf(j, x, t).k.Sign() != 0
}

// conditions returns what may not be below 0 where a set-up meets a face, but
// for that of K.
func conditions(j api.CoverJoint, x api.CoverAsk, t *big.Rat) [3]*big.Rat {
	s := sightOf(j, x, t)
	times := func(a *big.Rat, n int) *big.Rat { return product(a, ratio(n, 1)) }
	size := func(a *big.Rat) *big.Rat { return new(big.Rat).Abs(a) }
	return [...]*big.Rat{
		difference(times(s.across, x.Setup.Least.Den), times(s.down, x.Setup.Least.Num)),
		difference(times(s.down, x.Setup.Most.Num), times(s.across, x.Setup.Most.Den)),
		difference(times(size(s.k), x.Setup.Tilt.Num), times(size(s.a), x.Setup.Tilt.Den)),
	}
}

// changes returns the shares at which it may change whether a set-up meets a
// face: where the fan ends, and where A is K times the tilt, or its opposite.
func changes(j api.CoverJoint, x api.CoverAsk) []*big.Rat {
	zero, one := ratio(0, 1), ratio(1, 1)
	l := []*big.Rat{zero, one}
	add := func(first, last *big.Rat) {
		if first.Cmp(last) == 0 {
			return
		}
		t := quotient(first, difference(first, last))
		if t.Sign() > 0 && t.Cmp(one) < 0 {
			l = append(l, t)
		}
	}
	first, last := conditions(j, x, zero), conditions(j, x, one)
	add(first[0], last[0])
	add(first[1], last[1])
	begin, end := sightOf(j, x, zero), sightOf(j, x, one)
	k := product(begin.k, ratio(x.Setup.Tilt.Num, x.Setup.Tilt.Den))
	add(sum(begin.a, k), sum(end.a, k))
	add(difference(begin.a, k), difference(end.a, k))
	slices.SortFunc(l, (*big.Rat).Cmp)
	return l
}

// stretch is the shares from one to another one.
type stretch struct{ from, to *big.Rat }

func (s stretch) has(t *big.Rat) bool {
	return s.from.Cmp(t) <= 0 && t.Cmp(s.to) <= 0
}

func (s stretch) part() api.CoverPart {
	return api.CoverPart{From: pointOf(s.from), To: pointOf(s.to)}
}

// stretchOf returns the part of a face that a set-up meets, by definition.
func stretchOf(j api.CoverJoint, x api.CoverAsk) (s stretch, isMet bool) {
	for _, t := range changes(j, x) {
		if !meets(j, x, t) {
			continue
		}
		if !isMet {
			s.from = t
		}
		s.to, isMet = t, true
	}
	return s, isMet
}

// middle returns what lies in the middle of two shares.
func middle(a, b *big.Rat) *big.Rat {
	return quotient(sum(a, b), ratio(2, 1))
}

// stretchesOf returns what set-ups meet of a face.
func stretchesOf(j api.CoverJoint, face int, l []api.CoverSetup) []stretch {
	var met []stretch
	for _, s := range l {
		if p, isMet := stretchOf(j, api.CoverAsk{Face: face, Setup: s}); isMet {
			met = append(met, p)
		}
	}
	return met
}

// gapsOf returns all gaps of what is met of a face, by definition.
func gapsOf(met []stretch) []api.CoverPart {
	isMet := func(t *big.Rat) bool {
		return slices.ContainsFunc(met, func(s stretch) bool { return s.has(t) })
	}
	ends := []*big.Rat{ratio(0, 1), ratio(1, 1)}
	for _, s := range met {
		ends = append(ends, s.from, s.to)
	}
	slices.SortFunc(ends, (*big.Rat).Cmp)
	var gaps []stretch
	for n, to := range ends[1:] {
		begin := ends[n]
		if begin.Cmp(to) == 0 || isMet(middle(begin, to)) {
			continue
		}
		if last := len(gaps) - 1; last >= 0 && gaps[last].to.Cmp(begin) == 0 && !isMet(begin) {
			gaps[last].to = to
		} else {
			gaps = append(gaps, stretch{begin, to})
		}
	}
	var parts []api.CoverPart
	for _, g := range gaps {
		parts = append(parts, g.part())
	}
	return parts
}

// chosen returns the items of a list whose bits are set.
func chosen[T any](l []T, bits int) []T {
	var some []T
	for n, item := range l {
		if bits>>n&1 == 1 {
			some = append(some, item)
		}
	}
	return some
}

// expectMark compares what Parse returns for a wrong text.
func expectMark(t *testing.T, s string, line, column int, want api.Errno) {
	t.Helper()
	j, m, e := cover.Parse(s)
	refused(t, fmt.Sprintf("Parse of %.200q", s), j, e, want)
	if m != (api.TextMark{Line: line, Column: column}) {
		t.Errorf("Parse of %.200q, error %d: at %v; want %d, %d", s, e, m, line, column)
	}
}

// fault is something that makes an argument wrong, and what is told then.
type fault[T any] struct {
	spoil func(x *T)
	n     int
	want  api.Errno
}

// eachFault has every fault judged alone, and together with all that are told
// behind it.
func eachFault[T any](fresh func() T, faults []fault[T], judge func(x T, n int, want api.Errno)) {
	for k, f := range faults {
		x := fresh()
		f.spoil(&x)
		judge(x, f.n, f.want)
		x = fresh()
		for j := len(faults) - 1; j >= k; j-- {
			faults[j].spoil(&x)
		}
		judge(x, f.n, f.want)
	}
}

// wrongJoints returns a joint for each error that CheckJoint may tell.
func wrongJoints() map[api.Errno]api.CoverJoint {
	face := slant().Faces[0]
	other := api.CoverFace{Name: "g", From: spot(5, 5), To: spot(5, 5)}
	range0 := slant()
	range0.Thick = 0
	return map[api.Errno]api.CoverJoint{
		api.ErrName:   {Thick: 5},
		api.ErrRange:  range0,
		api.ErrLarge:  slant(make([]api.CoverFace, 12)...),
		api.ErrExists: slant(face),
		api.ErrZero:   slant(other),
	}
}

// wrongSetups returns a set-up for each error that CheckSetup may tell.
func wrongSetups() map[api.Errno]api.CoverSetup {
	l := map[api.Errno]api.CoverSetup{}
	for e, spoil := range map[api.Errno]func(s *api.CoverSetup){
		api.ErrName:  func(s *api.CoverSetup) { s.Name = "" },
		api.ErrRange: func(s *api.CoverSetup) { s.At = 20001 },
		api.ErrKind:  func(s *api.CoverSetup) { s.Legs = 3 },
		api.ErrForm:  func(s *api.CoverSetup) { s.Tilt = frac(2, 2) },
		api.ErrOrder: func(s *api.CoverSetup) { s.Least = frac(4) },
	} {
		s := direct()
		spoil(&s)
		l[e] = s
	}
	return l
}

// wrongLists returns set-ups for each error that lists of them may have.
func wrongLists() map[api.Errno][]api.CoverSetup {
	l := map[api.Errno][]api.CoverSetup{
		api.ErrLarge:  make([]api.CoverSetup, 13),
		api.ErrExists: {direct(), skip(1), direct()},
	}
	for e, s := range wrongSetups() {
		l[e] = []api.CoverSetup{skip(1), s}
	}
	return l
}

// wrongPoints returns points that are none, and their errors.
func wrongPoints() map[api.CoverPoint]api.Errno {
	return map[api.CoverPoint]api.Errno{
		{}:                                  api.ErrForm,
		point(1, 0):                         api.ErrForm,
		point(0, 2):                         api.ErrForm,
		point(2, 4):                         api.ErrForm,
		point(2, 2):                         api.ErrForm,
		point(-2, 4):                        api.ErrForm,
		point(1, -1):                        api.ErrForm,
		point(-1, -2):                       api.ErrForm,
		point(-huge-1, -huge-1):             api.ErrForm,
		point(2, 2000000000000):             api.ErrForm,
		point(-1, 2):                        api.ErrRange,
		point(-1, 1):                        api.ErrRange,
		point(3, 2):                         api.ErrRange,
		point(2, 1):                         api.ErrRange,
		point(-huge-1, 1):                   api.ErrRange,
		point(huge, 1):                      api.ErrRange,
		point(1, huge):                      api.ErrRange,
		point(1, 1000000000001):             api.ErrRange,
		point(1000000000000, 1000000000001): api.ErrRange,
	}
}
