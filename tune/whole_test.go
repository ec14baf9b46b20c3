package tune_test

import (
	"reflect"
	"slices"
	"testing"

	"couplant/api"
	"couplant/tune"
)

// P6.8

// The echo at the depth of a row is that of the row, and an echo that is the
// table's becomes the target.
func TestEchoesOfRowsAreThoseOfTheRows(t *testing.T) {
	var n numbers = 19
	for range 300 {
		l := n.table(n.from(1, 20), 50, 1000000)
		target := n.from(1, 1000000)
		for _, r := range l {
			expectAlike(t, "EchoAt", must(tune.EchoAt(l, r.Depth)), from(r.Echo))
			expectAlike(t, "Equalised", must(tune.Equalised(l, r, target)), from(target))
		}
		for depth := l[0].Depth; depth <= l[len(l)-1].Depth; depth++ {
			echo := must(tune.EchoAt(l, depth))
			if echo.Lo != echo.Hi {
				continue
			}
			x := api.TuneRow{Depth: depth, Echo: echo.Lo}
			expectAlike(t, "Equalised", must(tune.Equalised(l, x, target)), from(target))
		}
	}
}

// Each row of the table lies within the slack of the thinned one, which loses
// none but rows that lie on its lines when it is thinned again.
func TestThinnedTablesKeepTheirSlack(t *testing.T) {
	var n numbers = 20
	for range 300 {
		l := n.table(n.from(1, 20), 9, 60)
		slack := n.from(0, 40)
		var thin []api.TuneRow
		for _, row := range must(tune.Thinned(l, slack)) {
			thin = append(thin, l[row])
		}
		for _, r := range l {
			echo := must(tune.EchoAt(thin, r.Depth))
			if echo.Hi-r.Echo > slack || r.Echo-echo.Lo > slack {
				t.Errorf("%v is thinned to %v: %v is not within %d", l, thin, r, slack)
			}
		}
		var again []api.TuneRow
		for _, row := range must(tune.Thinned(thin, 0)) {
			again = append(again, thin[row])
		}
		for _, r := range l {
			expectAlike(t, "EchoAt of what is thinned again", must(tune.EchoAt(again, r.Depth)), must(tune.EchoAt(thin, r.Depth)))
		}
	}
}

// P2

// A block that is made with a delay and a slowness has both of them in its
// ranges.
func TestWhatMadeABlockExplainsIt(t *testing.T) {
	var n numbers = 21
	for range 500 {
		delay, slowness := n.from(0, 10000000), n.from(1000, 20000)
		var l []api.TuneArc
		for _, radius := range n.ascending(n.from(2, 12), n.from(1, 3000), 7000) {
			at := delay + 2*radius*slowness
			l = append(l, api.TuneArc{Radius: radius, Time: from(max(0, at-n.from(0, 9000)), at+n.from(0, 9000))})
		}
		if r := must(tune.DelayRange(l)); delay < r.Lo || delay > r.Hi {
			t.Errorf("the delay %d is not in %v of %v", delay, r, l)
		}
		r, e := tune.SpeedRange(l)
		isIn := r.Lo*slowness <= 10000000 && 10000000 <= r.Hi*slowness
		if e != api.ErrZero && (e != api.OK || !isIn) {
			t.Errorf("the slowness %d is not in %v of %v, error %d", slowness, r, l, e)
		}
		_, e = tune.Contradiction(l)
		expect(t, "Contradiction", 0, e, 0, api.ErrNone)
	}
}

// Steps are valid just until they end, and what ends them is told by the events.
func TestStepsAreValidJustAsLong(t *testing.T) {
	var n numbers = 22
	for range 500 {
		l := n.steps()
		events := n.events(l, 15)
		for step := range l {
			until, e := tune.UntilOf(l, events, step)
			if e == api.ErrNone {
				continue
			}
			last := events[len(events)-1].Minute
			for _, minute := range []int{last, until, until + 1} {
				expectAlike(t, "ValidAt", must(tune.ValidAt(l, events, minute))[step], minute <= until)
			}
		}
	}
}

// R3: arguments stay as they are, also behind their ends, and results are in
// their own memory.
func TestArgumentsStay(t *testing.T) {
	rows, arcs, echoes := four(), block(), []int{1, 2, 3}
	l, events := steps(), slices.Grow(done(), 3)
	behind := append(events, api.TuneEvent{Minute: 1}, api.TuneEvent{Minute: 2}, api.TuneEvent{Minute: 3})
	for range 2 {
		expectAlike(t, "Thinned", must(tune.Thinned(rows, 0)), []int{0, 1, 2, 3})
		clear(must(tune.Thinned(rows, 0)))
		must(tune.Equalised(rows, rows[1], 5))
		must(tune.SpeedRange(arcs))
		must(tune.DelayRange(arcs))
		tune.Contradiction(arcs)
		expectAlike(t, "Uneven", must(tune.Uneven(echoes, 2, 0)), []int{0, 2})
		clear(must(tune.Uneven(echoes, 2, 0)))
		expectAlike(t, "ValidAt", must(tune.ValidAt(l, events, 61)), []bool{true, false})
		clear(must(tune.ValidAt(l, events, 61)))
		expectAlike(t, "ToDo", must(tune.ToDo(l, events, 101)), []int{0, 1})
		clear(must(tune.ToDo(l, events, 101)))
		must(tune.UntilOf(l, events, 1))
	}
	for _, x := range []struct{ got, want any }{
		{rows, four()}, {arcs, block()}, {echoes, []int{1, 2, 3}}, {l, steps()}, {events, done()},
		{behind[2:], []api.TuneEvent{{Minute: 1}, {Minute: 2}, {Minute: 3}}},
	} {
		if !reflect.DeepEqual(x.got, x.want) {
			t.Errorf("%v has become %v", x.want, x.got)
		}
	}
}
