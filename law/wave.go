package law

import (
	"couplant/api"
	"couplant/check"
	"couplant/whole"
)

// GratingFree returns whether a pitch has no grating lobe with a turn.
func GratingFree(x api.LawPitch) (bool, api.Errno) {
	if e := check.First(pitchError(x), CheckTurn(x.Turn)); e != api.OK {
		return false, e
	}
	pitch, wave := pitchAndWave(x)
	turn := x.Turn
	return pitch*(turn.R+max(turn.P, -turn.P)) <= wave*turn.R, api.OK
}

// SteepestFree returns the greatest size of P / R without a grating lobe.
func SteepestFree(x api.LawPitch) (api.Frac, api.Errno) {
	if e := pitchError(x); e != api.OK {
		return api.Frac{}, e
	}
	pitch, wave := pitchAndWave(x)
	if pitch > wave {
		return api.Frac{}, api.ErrNone
	}
	return whole.LowestTerms(min(wave-pitch, pitch), pitch), api.OK
}

// pitchAndWave returns a pitch and its wave length, both times the frequency.
func pitchAndWave(x api.LawPitch) (pitch, wave int) {
	return x.Pitch * x.Kilohertz, 100 * x.Speed
}

// NearField returns the near field of an aperture, rounded down and up.
func NearField(aperture, speed, kilohertz int) (api.Range, api.Errno) {
	e := check.First(
		check.Within(aperture, 0, api.MaxAperture),
		waveError(speed, kilohertz),
	)
	if e != api.OK {
		return api.Range{}, e
	}
	return whole.Enclosed(aperture*aperture*kilohertz, 400*speed), api.OK
}

func pitchError(x api.LawPitch) api.Errno {
	return check.First(
		check.Within(x.Pitch, 1, api.MaxPitch),
		waveError(x.Speed, x.Kilohertz),
	)
}

func waveError(speed, kilohertz int) api.Errno {
	return check.First(
		check.Speed(speed),
		check.Within(kilohertz, 1, api.MaxKilohertz),
	)
}
