package law_test

import (
	"math/big"
	"testing"

	"couplant/api"
	"couplant/law"
)

// P2.5

// pitch returns the document's pitch with another turn.
func pitch(turn api.LawTurn) api.LawPitch {
	return api.LawPitch{Pitch: 60, Speed: 5900, Kilohertz: 5000, Turn: turn}
}

func TestGratingFree(t *testing.T) {
	straight := api.LawTurn{Q: 1, R: 1}
	for _, x := range []struct {
		x    api.LawPitch
		want bool
	}{
		{pitch(api.LawTurn{P: 3, Q: 4, R: 5}), true},
		{pitch(api.LawTurn{P: -3, Q: 4, R: 5}), true},
		{pitch(api.LawTurn{P: 35, Q: 12, R: 37}), true},    // 60 * 1.946 = 116.8
		{pitch(api.LawTurn{P: 840, Q: 41, R: 841}), false}, // 60 * 1.9988 = 119.9
		{pitch(api.LawTurn{P: -840, Q: 41, R: 841}), false},
		{api.LawPitch{Pitch: 118, Speed: 5900, Kilohertz: 5000, Turn: straight}, true},
		{api.LawPitch{Pitch: 119, Speed: 5900, Kilohertz: 5000, Turn: straight}, false},
		{api.LawPitch{Pitch: 118, Speed: 5900, Kilohertz: 5001, Turn: straight}, false},
		// The wave length is 96, just 60 times 1.6, and less than that.
		{api.LawPitch{Pitch: 60, Speed: 4800, Kilohertz: 5000, Turn: api.LawTurn{P: 3, Q: 4, R: 5}}, true},
		{api.LawPitch{Pitch: 60, Speed: 4799, Kilohertz: 5000, Turn: api.LawTurn{P: 3, Q: 4, R: 5}}, false},
		{api.LawPitch{Pitch: 60, Speed: 4799, Kilohertz: 5000, Turn: api.LawTurn{P: -3, Q: 4, R: 5}}, false},
		{api.LawPitch{Pitch: 1000, Speed: 500, Kilohertz: 50000, Turn: straight}, false},
		{api.LawPitch{Pitch: 1, Speed: 10000, Kilohertz: 1, Turn: api.LawTurn{P: 840, Q: 41, R: 841}}, true},
	} {
		free, e := law.GratingFree(x.x)
		expect(t, "GratingFree", free, e, x.want, api.OK)
	}
}

func TestGratingFreeIsAsDefined(t *testing.T) {
	var n numbers = 10
	turns := triples(60)
	for range 2000 {
		x := randomPitch(&n)
		x.Turn = turns[n.from(0, len(turns)-1)]
		across := ratio(max(x.Turn.P, -x.Turn.P), x.Turn.R)
		across.Add(across, ratio(1, 1)).Mul(across, ratio(x.Pitch, 1))
		free, e := law.GratingFree(x)
		expect(t, "GratingFree", free, e, across.Cmp(wave(x)) <= 0, api.OK)
	}
}

// randomPitch returns a pitch that is often near to its wave length.
func randomPitch(n *numbers) api.LawPitch {
	x := api.LawPitch{Speed: n.from(api.LeastSpeed, api.MaxSpeed), Kilohertz: n.from(1, 10000)}
	if n.from(0, 9) == 0 {
		x.Kilohertz = n.from(1, api.MaxKilohertz)
	}
	length := 100 * x.Speed / x.Kilohertz
	x.Pitch = min(max(n.from(length/3, length+1), 1), api.MaxPitch)
	return x
}

// wave returns the wave length.
func wave(x api.LawPitch) *big.Rat {
	return ratio(100*x.Speed, x.Kilohertz)
}

func TestSteepestFree(t *testing.T) {
	for _, x := range []struct {
		pitch, speed, kilohertz int
		want                    api.Frac
	}{
		{60, 5900, 5000, api.Frac{Num: 29, Den: 30}},
		{59, 5900, 5000, api.Frac{Num: 1, Den: 1}},
		{58, 5900, 5000, api.Frac{Num: 1, Den: 1}},
		{1, 10000, 1, api.Frac{Num: 1, Den: 1}},
		{118, 5900, 5000, api.Frac{Num: 0, Den: 1}},
		{117, 5900, 5000, api.Frac{Num: 1, Den: 117}},
		{1000, 500, 50, api.Frac{Num: 0, Den: 1}},
		{19, 10000, 49999, api.Frac{Num: 50019, Den: 949981}},
		{100, 5900, 5000, api.Frac{Num: 9, Den: 50}},
	} {
		s, e := law.SteepestFree(api.LawPitch{Pitch: x.pitch, Speed: x.speed, Kilohertz: x.kilohertz})
		expect(t, "SteepestFree", s, e, x.want, api.OK)
	}
	for _, x := range []api.LawPitch{
		{Pitch: 119, Speed: 5900, Kilohertz: 5000},
		{Pitch: 118, Speed: 5900, Kilohertz: 5001},
		{Pitch: 1000, Speed: 500, Kilohertz: 50000},
	} {
		s, e := law.SteepestFree(x)
		expect(t, "SteepestFree with a lobe", s, e, api.Frac{}, api.ErrNone)
	}
}

func TestSteepestFreeDoesNotLookAtTheTurn(t *testing.T) {
	for _, turn := range []api.LawTurn{{}, {P: 1, Q: 1, R: 1}, {P: huge, Q: -5, R: -1}, {P: 3, Q: 4, R: 5}} {
		s, e := law.SteepestFree(pitch(turn))
		expect(t, "SteepestFree", s, e, api.Frac{Num: 29, Den: 30}, api.OK)
	}
}

func TestSteepestFreeIsAsDefined(t *testing.T) {
	var n numbers = 11
	for range 2000 {
		x := randomPitch(&n)
		steepest := wave(x)
		steepest.Quo(steepest, ratio(x.Pitch, 1)).Sub(steepest, ratio(1, 1))
		want, f := api.Frac{}, api.ErrNone
		if steepest.Sign() >= 0 {
			if steepest.Cmp(ratio(1, 1)) > 0 {
				steepest = ratio(1, 1)
			}
			want = api.Frac{Num: int(steepest.Num().Int64()), Den: int(steepest.Denom().Int64())}
			f = api.OK
		}
		s, e := law.SteepestFree(x)
		expect(t, "SteepestFree", s, e, want, f)
	}
}

func TestPitchesAreRefused(t *testing.T) {
	for _, x := range []api.LawPitch{
		{Pitch: 0, Speed: 5900, Kilohertz: 5000},
		{Pitch: 1001, Speed: 5900, Kilohertz: 5000},
		{Pitch: -huge - 1, Speed: 5900, Kilohertz: 5000},
		{Pitch: 60, Speed: 499, Kilohertz: 5000},
		{Pitch: 60, Speed: 10001, Kilohertz: 5000},
		{Pitch: 60, Speed: huge, Kilohertz: 5000},
		{Pitch: 60, Speed: 5900, Kilohertz: 0},
		{Pitch: 60, Speed: 5900, Kilohertz: 50001},
		{Pitch: 60, Speed: 5900, Kilohertz: -huge - 1},
		{},
	} {
		s, e := law.SteepestFree(x)
		expect(t, "SteepestFree", s, e, api.Frac{}, api.ErrRange)
		for _, turn := range []api.LawTurn{{P: 1, Q: 1, R: 1}, {P: 1, R: 1}, {Q: 1, R: 1}} {
			x.Turn = turn
			free, e := law.GratingFree(x)
			expect(t, "GratingFree", free, e, false, api.ErrRange)
		}
	}
}

func TestGratingFreeRefusesTurns(t *testing.T) {
	for _, x := range []struct {
		turn api.LawTurn
		want api.Errno
	}{
		{api.LawTurn{}, api.ErrRange},
		{api.LawTurn{Q: 1001, R: 1001}, api.ErrRange},
		{api.LawTurn{P: 1, Q: 1, R: 1}, api.ErrShape},
		{api.LawTurn{P: 1, R: 1}, api.ErrKind},
	} {
		free, e := law.GratingFree(pitch(x.turn))
		expect(t, "GratingFree", free, e, false, x.want)
	}
}

func TestNearField(t *testing.T) {
	for _, x := range []struct {
		aperture, speed, kilohertz int
		want                       api.Range
	}{
		{1000, 5900, 5000, api.Range{Lo: 2118, Hi: 2119}},
		{0, 5900, 5000, api.Range{}},
		{1, 10000, 1, api.Range{Lo: 0, Hi: 1}},
		{1000, 500, 2000, api.Range{Lo: 10000, Hi: 10000}},
		{1000, 500, 2001, api.Range{Lo: 10005, Hi: 10005}},
		{1001, 500, 2000, api.Range{Lo: 10020, Hi: 10021}},
		{10000, 500, 50000, api.Range{Lo: 25000000, Hi: 25000000}},
	} {
		r, e := law.NearField(x.aperture, x.speed, x.kilohertz)
		expect(t, "NearField", r, e, x.want, api.OK)
	}
	var n numbers = 12
	for range 1000 {
		d, v, f := n.from(0, api.MaxAperture), n.from(api.LeastSpeed, api.MaxSpeed), n.from(1, api.MaxKilohertz)
		exact := ratio(d*d*f, 400*v)
		r, e := law.NearField(d, v, f)
		expect(t, "NearField", r, e, api.Range{Lo: roundedDown(exact), Hi: roundedUp(exact)}, api.OK)
	}
}

func TestNearFieldRefuses(t *testing.T) {
	for _, x := range [][3]int{
		{-1, 5900, 5000}, {10001, 5900, 5000}, {huge, 5900, 5000}, {-huge - 1, 5900, 5000},
		{1000, 499, 5000}, {1000, 10001, 5000}, {1000, 0, 5000},
		{1000, 5900, 0}, {1000, 5900, 50001}, {1000, 5900, huge},
	} {
		r, e := law.NearField(x[0], x[1], x[2])
		expect(t, "NearField", r, e, api.Range{}, api.ErrRange)
	}
}
