package law_test

import (
	"testing"

	"couplant/api"
	"couplant/law"
	"couplant/ray"
)

// P2.7

func TestTheFocusIsMet(t *testing.T) {
	var n numbers = 14
	for range 500 {
		a := n.array()
		at := n.place(a)
		l, e := law.FocusLaw(a, at)
		expectError(t, "FocusLaw", e, api.OK)
		widest := 0
		for _, p := range a.Elements {
			time, _ := ray.LeastTime(a.Mode, p, at)
			widest = max(widest, time.Hi-time.Lo)
		}
		whole := spread(t, a, l, at)
		if whole.Hi > a.Clock+2*widest || whole.Lo < 0 || whole.Lo > whole.Hi {
			t.Fatalf("%v at %v: the spread %v with the clock %d and the width %d", a, at, whole, a.Clock, widest)
		}
	}
}

func TestFewerElementsSpreadNoMore(t *testing.T) {
	var n numbers = 15
	for range 300 {
		a := n.array()
		at := n.place(a)
		l, _ := law.FocusLaw(a, at)
		for last := spread(t, a, l, at); ; {
			sending, _ := law.Sending(l)
			if len(sending) == 1 {
				break
			}
			var e api.Errno
			l, e = law.Without(l, []int{sending[n.from(0, len(sending)-1)]})
			expectError(t, "Without", e, api.OK)
			now := spread(t, a, l, at)
			if now.Hi > last.Hi {
				t.Fatalf("%v at %v: %v, and with fewer elements %v", a, at, last, now)
			}
			last = now
		}
	}
}

// P2.8

func TestAddedDoesNotDependOnTheOrder(t *testing.T) {
	var n numbers = 16
	for range 300 {
		a := manyElements(n.from(1, 16))
		l, m := n.law(a), n.law(a)
		m.Clock = l.Clock
		r, e := law.Added(l, m)
		s, f := law.Added(m, l)
		expect(t, "Added", r, e, s, f)
		for i := range r.Ticks {
			sum := l.Ticks[i] + m.Ticks[i]
			if l.Ticks[i] < 0 || m.Ticks[i] < 0 {
				sum = -1
			}
			if r.Ticks[i] != sum {
				t.Fatalf("Added of %v and %v: %v", l, m, r)
			}
		}
	}
}

func TestWhatIsAddedAlikeChangesNoSpread(t *testing.T) {
	var n numbers = 17
	for range 300 {
		a := n.array()
		at := n.place(a)
		l := n.law(a)
		l.Ticks[0] = max(l.Ticks[0], 0)
		alike := api.DelayLaw{Clock: l.Clock}
		ticks := n.from(0, 1000)
		for range l.Ticks {
			alike.Ticks = append(alike.Ticks, ticks)
		}
		more, e := law.Added(l, alike)
		expectError(t, "Added", e, api.OK)
		want := spread(t, a, l, at)
		expect(t, "Spread of more", spread(t, a, more, at), api.OK, want, api.OK)

		less, e := law.Normalised(l)
		expectError(t, "Normalised", e, api.OK)
		expect(t, "Spread of a normalised law", spread(t, a, less, at), api.OK, want, api.OK)
		again, e := law.Normalised(less)
		expect(t, "Normalised again", again, e, less, api.OK)
		again, e = law.Normalised(more)
		expect(t, "Normalised of more", again, e, less, api.OK)
	}
}

// P2.9

func TestLossGrowsWithTheSpreadAlone(t *testing.T) {
	loss := func(spread, period int) int {
		n, e := law.LossOf(spread, period)
		expectError(t, "LossOf", e, api.OK)
		return n
	}
	var n numbers = 18
	for range 1000 {
		period := n.from(1, api.MaxPeriod)
		spread := n.from(0, 2*period)
		more := n.from(spread, 1<<30)
		longer := n.from(period, api.MaxPeriod)
		if loss(more, period) < loss(spread, period) {
			t.Fatalf("with the period %d the spread %d loses more than %d", period, spread, more)
		}
		if loss(spread, longer) > loss(spread, period) {
			t.Fatalf("with the spread %d the period %d loses more than %d", spread, longer, period)
		}
		expect(t, "LossOf no spread", loss(0, period), api.OK, 0, api.OK)
	}
}

// P2.10

func TestTurnsAreFreeToTheSteepestOne(t *testing.T) {
	var n numbers = 19
	turns := triples(100)
	free := 0
	for range 300 {
		x := randomPitch(&n)
		steepest, e := law.SteepestFree(x)
		for _, x.Turn = range turns {
			size := max(x.Turn.P, -x.Turn.P)
			want := e == api.OK && size*steepest.Den <= steepest.Num*x.Turn.R
			got, f := law.GratingFree(x)
			expect(t, "GratingFree", got, f, want, api.OK)
			if got {
				free++
			}
		}
	}
	if free == 0 || free == 300*len(turns) {
		t.Errorf("%d turns are free", free)
	}
}
