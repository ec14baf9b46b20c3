package ray_test

import (
	"testing"

	"couplant/api"
	"couplant/ray"
)

// P1.1

func TestLengthOfExamples(t *testing.T) {
	for _, x := range []struct {
		a, b api.Spot
		want api.Range
	}{
		{api.Spot{}, api.Spot{X: 300, Z: 400}, api.Range{Lo: 500000, Hi: 500000}},
		{api.Spot{}, api.Spot{X: 1, Z: 1}, api.Range{Lo: 1414, Hi: 1415}},
		{api.Spot{X: 7, Z: -9}, api.Spot{X: 7, Z: -9}, api.Range{}},
		{api.Spot{X: -3}, api.Spot{Z: -4}, api.Range{Lo: 5000, Hi: 5000}},
		{api.Spot{X: -100000, Z: 100000}, api.Spot{X: 100000, Z: -100000}, api.Range{Lo: 282842712, Hi: 282842713}},
		{api.Spot{X: -100000}, api.Spot{X: 100000}, api.Range{Lo: 200000000, Hi: 200000000}},
	} {
		r, e := ray.Length(x.a, x.b)
		expect(t, "Length", r, e, x.want, api.OK)
	}
}

func TestLengthIsRoundedDownAndUp(t *testing.T) {
	var n numbers = 1
	for range 3000 {
		size := n.from(1, 17)
		size = min(1<<size, api.MaxPlace)
		a := api.Spot{X: n.from(-size, size), Z: n.from(-size, size)}
		b := api.Spot{X: n.from(-size, size), Z: n.from(-size, size)}
		v := n.speed()
		r, e := ray.Length(a, b)
		expect(t, "Length", r, e, exactLength(a.X-b.X, a.Z-b.Z), api.OK)
		r, e = ray.TimeOf(a, b, v)
		expect(t, "TimeOf", r, e, exactTime(a.X-b.X, a.Z-b.Z, v), api.OK)
	}
}

func TestTimeOfExamples(t *testing.T) {
	for _, x := range []struct {
		b     api.Spot
		speed int
		want  api.Range
	}{
		{api.Spot{X: 300, Z: 400}, 5000, api.Range{Lo: 1000000, Hi: 1000000}},
		{api.Spot{X: 1, Z: 1}, 5000, api.Range{Lo: 2828, Hi: 2830}},
		{api.Spot{X: 1}, 3000, api.Range{Lo: 3333, Hi: 3334}},
		{api.Spot{X: 1}, 500, api.Range{Lo: 20000, Hi: 20000}},
		{api.Spot{X: 1}, 10000, api.Range{Lo: 1000, Hi: 1000}},
		{api.Spot{}, 3000, api.Range{}},
	} {
		r, e := ray.TimeOf(api.Spot{}, x.b, x.speed)
		expect(t, "TimeOf", r, e, x.want, api.OK)
	}
}

func TestLegsRefuse(t *testing.T) {
	good := api.Spot{X: 1, Z: 1}
	for _, bad := range []api.Spot{{X: 100001}, {X: -100001}, {Z: 100001}, {Z: -100001}, {X: huge}, {Z: -huge - 1}} {
		r, e := ray.Length(bad, good)
		expect(t, "Length from a wrong place", r, e, api.Range{}, api.ErrRange)
		r, e = ray.Length(good, bad)
		expect(t, "Length to a wrong place", r, e, api.Range{}, api.ErrRange)
		r, e = ray.Length(bad, bad)
		expect(t, "Length of a wrong place", r, e, api.Range{}, api.ErrRange)
		r, e = ray.TimeOf(bad, good, 5000)
		expect(t, "TimeOf from a wrong place", r, e, api.Range{}, api.ErrRange)
		r, e = ray.TimeOf(good, bad, 5000)
		expect(t, "TimeOf to a wrong place", r, e, api.Range{}, api.ErrRange)
	}
	for _, v := range []int{499, 10001, 0, -5000, huge, -huge - 1} {
		r, e := ray.TimeOf(api.Spot{}, good, v)
		expect(t, "TimeOf a wrong speed", r, e, api.Range{}, api.ErrRange)
		r, e = ray.TimeOf(good, good, v)
		expect(t, "TimeOf a wrong speed over no length", r, e, api.Range{}, api.ErrRange)
	}
}
