package tune_test

import (
	"fmt"
	"slices"
	"strings"
	"testing"

	"couplant/api"
	"couplant/tune"
)

// P6.5

func TestCheckSteps(t *testing.T) {
	for _, x := range []struct {
		spoil func(l []api.TuneStep)
		n     int
		want  api.Errno
	}{
		{func(l []api.TuneStep) {}, 0, api.OK},
		{func(l []api.TuneStep) { l[0].Lasts, l[1].Lasts, l[2].Lasts = 1, 1000000, 7 }, 0, api.OK},
		{func(l []api.TuneStep) { l[0].Warm, l[1].Warm = 0, 2000 }, 0, api.OK},
		{func(l []api.TuneStep) { l[2].Needs = []int{0} }, 0, api.OK},
		{func(l []api.TuneStep) { l[2].Needs = []int{1} }, 0, api.OK},
		// More exactly: steps may need nothing.
		{func(l []api.TuneStep) { l[1].Needs, l[2].Needs = nil, []int{} }, 0, api.OK},
		{func(l []api.TuneStep) { l[1].Name = "A-0" }, 0, api.OK},
		{func(l []api.TuneStep) { l[1].Name = "" }, 1, api.ErrName},
		{func(l []api.TuneStep) { l[1].Name = "0a" }, 1, api.ErrName},
		{func(l []api.TuneStep) { l[1].Name = "a b" }, 1, api.ErrName},
		{func(l []api.TuneStep) { l[1].Name = "abcdefghijklm" }, 1, api.ErrName},
		{func(l []api.TuneStep) { l[0].Name = strings.Repeat("a", 100000) }, 0, api.ErrName},
		{func(l []api.TuneStep) { l[1].Name = l[0].Name }, 1, api.ErrExists},
		{func(l []api.TuneStep) { l[2].Name = l[0].Name }, 2, api.ErrExists},
		{func(l []api.TuneStep) { l[2].Name = l[1].Name }, 2, api.ErrExists},
		{func(l []api.TuneStep) { l[0].Lasts = 0 }, 0, api.ErrRange},
		{func(l []api.TuneStep) { l[1].Lasts = 1000001 }, 1, api.ErrRange},
		{func(l []api.TuneStep) { l[1].Lasts = -huge - 1 }, 1, api.ErrRange},
		{func(l []api.TuneStep) { l[0].Warm = -1 }, 0, api.ErrRange},
		{func(l []api.TuneStep) { l[2].Warm = 2001 }, 2, api.ErrRange},
		{func(l []api.TuneStep) { l[2].Warm = huge }, 2, api.ErrRange},
		{func(l []api.TuneStep) { l[0].Needs = []int{0} }, 0, api.ErrMissing},
		{func(l []api.TuneStep) { l[1].Needs = []int{1} }, 1, api.ErrMissing},
		{func(l []api.TuneStep) { l[1].Needs = []int{2} }, 1, api.ErrMissing},
		{func(l []api.TuneStep) { l[1].Needs = []int{-1} }, 1, api.ErrMissing},
		{func(l []api.TuneStep) { l[2].Needs = []int{0, huge} }, 2, api.ErrMissing},
		{func(l []api.TuneStep) { l[2].Needs = []int{-huge - 1} }, 2, api.ErrMissing},
		{func(l []api.TuneStep) { l[2].Needs = []int{0, 0} }, 2, api.ErrOrder},
		{func(l []api.TuneStep) { l[2].Needs = []int{1, 0} }, 2, api.ErrOrder},
		{func(l []api.TuneStep) { l[2].Needs = []int{1, 0, 5} }, 2, api.ErrOrder},
		{func(l []api.TuneStep) { l[2].Needs = []int{1, 5, 0} }, 2, api.ErrMissing},
		{func(l []api.TuneStep) { l[2].Needs = []int{1, -1} }, 2, api.ErrMissing},
		{func(l []api.TuneStep) { l[2].Needs = make([]int, 100000) }, 2, api.ErrOrder},
		// The first step with an error is told.
		{func(l []api.TuneStep) { l[2].Name, l[1].Needs = "", []int{0, 0} }, 1, api.ErrOrder},
	} {
		l := []api.TuneStep{{Name: "a", Lasts: 1}, {Name: "b", Lasts: 1, Needs: []int{0}}, {Name: "c", Lasts: 1, Needs: []int{0, 1}}}
		x.spoil(l)
		n, e := tune.CheckSteps(l)
		expect(t, "CheckSteps", n, e, x.n, x.want)
	}
}

func TestHowManyStepsThereAre(t *testing.T) {
	for count, want := range map[int]api.Errno{0: api.ErrShape, 1: api.OK, 10: api.OK, 11: api.ErrLarge} {
		l := make([]api.TuneStep, 0)
		for n := range count {
			l = append(l, api.TuneStep{Name: fmt.Sprint("s", n), Lasts: 1})
		}
		n, e := tune.CheckSteps(l)
		expect(t, "CheckSteps of many", n, e, 0, want)
	}
	n, e := tune.CheckSteps(make([]api.TuneStep, 11))
	expect(t, "CheckSteps of many wrong ones", n, e, 0, api.ErrLarge)
	n, e = tune.CheckSteps(nil)
	expect(t, "CheckSteps of none", n, e, 0, api.ErrShape)
}

func TestErrorsOfStepsInOrder(t *testing.T) {
	faults := []fault[[]api.TuneStep]{
		{func(l *[]api.TuneStep) { (*l)[0].Lasts = 0 }, 0, api.ErrRange},
		{func(l *[]api.TuneStep) { (*l)[1].Name = "-" }, 1, api.ErrName},
		{func(l *[]api.TuneStep) { (*l)[1].Name = "wedge" }, 1, api.ErrExists},
		{func(l *[]api.TuneStep) { (*l)[1].Warm = 2001 }, 1, api.ErrRange},
		{func(l *[]api.TuneStep) { (*l)[1].Needs[0] = 1 }, 1, api.ErrMissing},
		{func(l *[]api.TuneStep) { (*l)[1].Needs = []int{0, 0} }, 1, api.ErrOrder},
		{func(l *[]api.TuneStep) { *l = append(*l, api.TuneStep{}) }, 2, api.ErrName},
	}
	eachFault(steps, faults, func(l []api.TuneStep, n int, want api.Errno) {
		got, e := tune.CheckSteps(l)
		expect(t, "CheckSteps", got, e, n, want)
	})
}

func TestCheckEvents(t *testing.T) {
	event := func(minute, step, warmth int) api.TuneEvent {
		return api.TuneEvent{Minute: minute, Step: step, Warmth: warmth}
	}
	for _, x := range []struct {
		l    []api.TuneEvent
		n    int
		want api.Errno
	}{
		{done(), 0, api.OK},
		{nil, 0, api.OK},
		{[]api.TuneEvent{}, 0, api.OK},
		{[]api.TuneEvent{event(0, -1, -2000), event(100000000, -1, 2000)}, 0, api.OK},
		// More exactly: minutes of events may be the same.
		{[]api.TuneEvent{event(5, -1, 0), event(5, 0, 0), event(5, 0, 0), event(5, 1, 0)}, 0, api.OK},
		{make([]api.TuneEvent, 60), 0, api.OK},
		{make([]api.TuneEvent, 61), 0, api.ErrLarge},
		{[]api.TuneEvent{event(-1, -1, 0)}, 0, api.ErrRange},
		{[]api.TuneEvent{event(0, -1, 0), event(100000001, -1, 0)}, 1, api.ErrRange},
		{[]api.TuneEvent{event(-huge-1, -1, 0)}, 0, api.ErrRange},
		{[]api.TuneEvent{event(0, -2, 0)}, 0, api.ErrMissing},
		{[]api.TuneEvent{event(0, 2, 0)}, 0, api.ErrMissing},
		{[]api.TuneEvent{event(0, huge, 0)}, 0, api.ErrMissing},
		{[]api.TuneEvent{event(0, -huge-1, 0)}, 0, api.ErrMissing},
		{[]api.TuneEvent{event(0, -1, 2001)}, 0, api.ErrRange},
		{[]api.TuneEvent{event(0, -1, -2001)}, 0, api.ErrRange},
		{[]api.TuneEvent{event(0, -1, -huge-1)}, 0, api.ErrRange},
		{[]api.TuneEvent{event(5, -1, 0), event(4, -1, 0)}, 1, api.ErrOrder},
		{[]api.TuneEvent{event(5, 0, 0), event(6, 1, 0), event(5, 1, 0)}, 2, api.ErrOrder},
		{[]api.TuneEvent{event(0, 1, 0)}, 0, api.ErrState},
		{[]api.TuneEvent{event(0, -1, 0), event(0, 1, 0)}, 1, api.ErrState},
		// The needed step has expired, or just not yet.
		{[]api.TuneEvent{event(7, 0, 0), event(107, 1, 0)}, 0, api.OK},
		{[]api.TuneEvent{event(7, 0, 0), event(108, 1, 0)}, 1, api.ErrState},
		// The temperature at which a step is done ends what it needs.
		{[]api.TuneEvent{event(0, 0, 200), event(0, 1, 250)}, 0, api.OK},
		{[]api.TuneEvent{event(0, 0, 200), event(0, 1, 251)}, 1, api.ErrState},
		{[]api.TuneEvent{event(0, 0, 200), event(0, 1, 149)}, 1, api.ErrState},
		{[]api.TuneEvent{event(0, 0, 200), event(0, -1, 251), event(0, 1, 200)}, 2, api.ErrState},
		{[]api.TuneEvent{event(0, 0, 200), event(0, -1, 251), event(0, 0, 251), event(0, 1, 200)}, 3, api.ErrState},
		{[]api.TuneEvent{event(0, 0, 200), event(0, -1, 251), event(0, 0, 251), event(0, 1, 201)}, 0, api.OK},
		// What needs nothing may always be done.
		{[]api.TuneEvent{event(0, 0, 200), event(0, 0, -2000), event(100000000, 0, 2000)}, 0, api.OK},
		// The first event with an error is told.
		{[]api.TuneEvent{event(0, 1, 0), event(-1, 5, 0)}, 0, api.ErrState},
	} {
		n, e := tune.CheckEvents(steps(), x.l)
		expect(t, "CheckEvents", n, e, x.n, x.want)
	}
}

// What a step that is needed needs must be valid, too, and so must each one of
// several steps.
func TestNeedsOfNeeds(t *testing.T) {
	l := append(steps(), api.TuneStep{Name: "scan", Lasts: 5, Warm: 50, Needs: []int{1}}, api.TuneStep{Name: "both", Lasts: 5, Warm: 50, Needs: []int{1, 2}})
	events := append(done(), api.TuneEvent{Minute: 10, Step: 0, Warmth: 210}, api.TuneEvent{Minute: 10, Step: 2, Warmth: 210})
	n, e := tune.CheckEvents(l, events)
	expect(t, "CheckEvents behind a wedge anew", n, e, 3, api.ErrState)
	events = append(done(), api.TuneEvent{Minute: 10, Step: 2, Warmth: 210}, api.TuneEvent{Minute: 15, Step: 3, Warmth: 210})
	n, e = tune.CheckEvents(l, events)
	expect(t, "CheckEvents of both", n, e, 0, api.OK)
	events[3].Minute = 16
	n, e = tune.CheckEvents(l, events)
	expect(t, "CheckEvents behind the second one", n, e, 3, api.ErrState)
}

func TestErrorsOfEventsInOrder(t *testing.T) {
	faults := []fault[calibration]{
		{func(c *calibration) { c.steps[1].Name = "" }, 0, api.ErrName},
		{func(c *calibration) { c.steps[1].Needs[0] = 1 }, 0, api.ErrMissing},
		{func(c *calibration) { c.events = append(c.events, make([]api.TuneEvent, 60)...) }, 0, api.ErrLarge},
		{func(c *calibration) { c.events[0].Step = 1 }, 0, api.ErrState},
		{func(c *calibration) { c.events[1].Minute = 100000001 }, 1, api.ErrRange},
		{func(c *calibration) { c.events[1].Step = 2 }, 1, api.ErrMissing},
		{func(c *calibration) { c.events[1].Warmth = 2001 }, 1, api.ErrRange},
		{func(c *calibration) { c.events[0].Minute = 11 }, 1, api.ErrOrder},
		{func(c *calibration) { c.events[1].Warmth = 251 }, 1, api.ErrState},
		{func(c *calibration) { c.events = append(c.events, api.TuneEvent{Step: 2}) }, 2, api.ErrMissing},
	}
	eachFault(func() calibration { return calibration{steps(), done()} }, faults, func(c calibration, n int, want api.Errno) {
		got, e := tune.CheckEvents(c.steps, c.events)
		expect(t, "CheckEvents", got, e, n, want)
	})
	// Of one event, the range of its warmth is told ahead of its order, and this
	// ahead of its state.
	for _, x := range []struct {
		event api.TuneEvent
		want  api.Errno
	}{
		{api.TuneEvent{Minute: -1, Step: 5, Warmth: 2001}, api.ErrRange},
		{api.TuneEvent{Minute: 4, Step: 5, Warmth: 2001}, api.ErrMissing},
		{api.TuneEvent{Minute: 4, Step: 1, Warmth: 2001}, api.ErrRange},
		{api.TuneEvent{Minute: 4, Step: 1, Warmth: 0}, api.ErrOrder},
		{api.TuneEvent{Minute: 5, Step: 1, Warmth: 0}, api.ErrState},
	} {
		n, e := tune.CheckEvents(steps(), []api.TuneEvent{{Minute: 5, Step: -1}, x.event})
		expect(t, "CheckEvents", n, e, 1, x.want)
	}
}

func TestEventsArePossibleAsDefined(t *testing.T) {
	var n numbers = 13
	counts := map[bool]int{}
	for range 2000 {
		l := n.steps()
		events := n.events(l, 12)
		x := n.event(l, events)
		want, number := api.OK, 0
		if !isPossible(l, events, x) {
			want, number = api.ErrState, len(events)
		}
		got, e := tune.CheckEvents(l, append(events, x))
		expect(t, "CheckEvents", got, e, number, want)
		counts[want == api.OK]++
	}
	if counts[true] < 300 || counts[false] < 300 {
		t.Errorf("%v", counts)
	}
}

// P6.6

func TestValidityOfExamples(t *testing.T) {
	for minute, want := range map[int][]bool{
		10: {true, true}, 60: {true, true}, 61: {true, false}, 100: {true, false}, 101: {false, false}, 100000000: {false, false},
	} {
		expectAlike(t, "ValidAt", must(tune.ValidAt(steps(), done(), minute)), want)
		var toDo []int
		for step, isValid := range want {
			if !isValid {
				toDo = append(toDo, step)
			}
		}
		expectAlike(t, "ToDo", must(tune.ToDo(steps(), done(), minute)), toDo)
	}
	expectAlike(t, "UntilOf gain", must(tune.UntilOf(steps(), done(), 1)), 60)
	expectAlike(t, "UntilOf wedge", must(tune.UntilOf(steps(), done(), 0)), 100)
	warm := append(done(), api.TuneEvent{Minute: 20, Step: -1, Warmth: 251})
	expectAlike(t, "ToDo behind a reading", must(tune.ToDo(steps(), warm, 20)), []int{0, 1})
	for step := range 2 {
		until, e := tune.UntilOf(steps(), warm, step)
		refused(t, "UntilOf behind a reading", until, e, api.ErrNone)
	}
}

func TestNothingIsValidWithoutEvents(t *testing.T) {
	for _, events := range [][]api.TuneEvent{nil, {}} {
		for _, minute := range []int{0, 7, 100000000} {
			expectAlike(t, "ValidAt", must(tune.ValidAt(steps(), events, minute)), []bool{false, false})
			expectAlike(t, "ToDo", must(tune.ToDo(steps(), events, minute)), []int{0, 1})
		}
		until, e := tune.UntilOf(steps(), events, 0)
		refused(t, "UntilOf", until, e, api.ErrNone)
	}
}

// More exactly: a step that is done again is kept from there on; steps that need
// it are not.
func TestAStepThatIsDoneAgain(t *testing.T) {
	events := append(done(), api.TuneEvent{Minute: 20, Step: 0, Warmth: 210})
	expectAlike(t, "ToDo", must(tune.ToDo(steps(), events, 20)), []int{1})
	expectAlike(t, "UntilOf", must(tune.UntilOf(steps(), events, 0)), 120)
	events = append(events, api.TuneEvent{Minute: 20, Step: 1, Warmth: 260})
	expectAlike(t, "ToDo", must(tune.ToDo(steps(), events, 20)), nil)
	expectAlike(t, "UntilOf", must(tune.UntilOf(steps(), events, 1)), 70)
	// The temperature is that of the last time.
	events = append(events, api.TuneEvent{Minute: 20, Step: -1, Warmth: 261})
	expectAlike(t, "ValidAt", must(tune.ValidAt(steps(), events, 20)), []bool{false, false})
	events[4].Warmth = 211
	expectAlike(t, "ValidAt", must(tune.ValidAt(steps(), events, 20)), []bool{true, true})
	events[4].Warmth = 209
	expectAlike(t, "ValidAt", must(tune.ValidAt(steps(), events, 20)), []bool{true, false})
}

// What was too warm once is not kept when it has cooled down, but what is done
// behind it is, at any temperature.
func TestWhatIsEndedStaysSo(t *testing.T) {
	events := append(done(), api.TuneEvent{Minute: 20, Step: -1, Warmth: 251}, api.TuneEvent{Minute: 20, Step: -1, Warmth: 200})
	expectAlike(t, "ToDo", must(tune.ToDo(steps(), events, 20)), []int{0, 1})
	events = append(events, api.TuneEvent{Minute: 20, Step: 0, Warmth: -2000})
	expectAlike(t, "ToDo", must(tune.ToDo(steps(), events, 20)), []int{1})
}

// More exactly: the order of the events counts.
func TestTheOrderOfEventsOfOneMinuteCounts(t *testing.T) {
	gain := api.TuneStep{Name: "gain", Lasts: 5, Warm: 50}
	l := []api.TuneStep{gain}
	warm, once := api.TuneEvent{Step: -1, Warmth: 51}, api.TuneEvent{Step: 0}
	expectAlike(t, "ToDo", must(tune.ToDo(l, []api.TuneEvent{warm, once}, 0)), nil)
	expectAlike(t, "ToDo", must(tune.ToDo(l, []api.TuneEvent{once, warm}, 0)), []int{0})
}

// More exactly: if a step that is needed has expired, what needs it is valid
// again nevermore.
func TestNeedsThatHaveExpired(t *testing.T) {
	l := steps()
	l[0].Lasts, l[1].Lasts = 20, 500
	expectAlike(t, "UntilOf", must(tune.UntilOf(l, done(), 1)), 20)
	expectAlike(t, "ToDo", must(tune.ToDo(l, done(), 20)), nil)
	expectAlike(t, "ToDo", must(tune.ToDo(l, done(), 21)), []int{0, 1})
	again := append(done(), api.TuneEvent{Minute: 21, Step: 0, Warmth: 210})
	expectAlike(t, "ToDo", must(tune.ToDo(l, again, 21)), []int{1})
	until, e := tune.UntilOf(l, again, 1)
	refused(t, "UntilOf", until, e, api.ErrNone)
	behind := append(done(), api.TuneEvent{Minute: 21, Step: -1, Warmth: 210})
	for step := range 2 {
		until, e = tune.UntilOf(l, behind, step)
		refused(t, "UntilOf behind the end", until, e, api.ErrNone)
	}
	behind[2].Minute = 20
	expectAlike(t, "UntilOf at the end", must(tune.UntilOf(l, behind, 1)), 20)
}

// More exactly: the temperature counts only at events, a step of Warm 0 lasts
// while it stays just the same.
func TestStepsOfWarm0(t *testing.T) {
	l := []api.TuneStep{{Name: "cold", Lasts: 9}}
	events := []api.TuneEvent{{Minute: 1, Step: 0, Warmth: 5}, {Minute: 2, Step: -1, Warmth: 5}}
	expectAlike(t, "UntilOf", must(tune.UntilOf(l, events, 0)), 10)
	for _, warmth := range []int{4, 6} {
		events[1].Warmth = warmth
		until, e := tune.UntilOf(l, events, 0)
		refused(t, "UntilOf", until, e, api.ErrNone)
	}
}

// The warmth of an event is looked at for the steps that it does not do, related
// or not.
func TestTheWarmthOfOtherSteps(t *testing.T) {
	l := []api.TuneStep{{Name: "one", Lasts: 9, Warm: 5}, {Name: "two", Lasts: 9, Warm: 5}}
	events := []api.TuneEvent{{Step: 0, Warmth: 10}, {Step: 1, Warmth: 15}, {Step: 0, Warmth: 21}}
	for count, want := range map[int][]bool{1: {true, false}, 2: {true, true}, 3: {true, false}} {
		expectAlike(t, "ValidAt", must(tune.ValidAt(l, events[:count], 0)), want)
	}
}

// A step may be valid beyond MaxMinute: limits of arguments do not hold for
// results.
func TestUntilOfTheLastMinute(t *testing.T) {
	l := []api.TuneStep{{Name: "long", Lasts: 1000000}}
	events := []api.TuneEvent{{Minute: 100000000, Step: 0}}
	expectAlike(t, "UntilOf", must(tune.UntilOf(l, events, 0)), 101000000)
	expectAlike(t, "ValidAt", must(tune.ValidAt(l, events, 100000000)), []bool{true})
}

func TestValidityIsAsDefined(t *testing.T) {
	var n numbers = 14
	counts := map[bool]int{}
	for range 1500 {
		l := n.steps()
		events := n.events(l, 15)
		last := 0
		if len(events) > 0 {
			last = events[len(events)-1].Minute
		}
		for minute := last; minute < last+45; minute += n.from(1, 15) {
			var valid []bool
			var toDo []int
			for step := range l {
				valid = append(valid, isValid(l, events, step, minute))
				counts[valid[step]]++
				if !valid[step] {
					toDo = append(toDo, step)
				}
			}
			expectAlike(t, "ValidAt", must(tune.ValidAt(l, events, minute)), valid)
			expectAlike(t, "ToDo", must(tune.ToDo(l, events, minute)), toDo)
		}
		for step := range l {
			until, e := tune.UntilOf(l, events, step)
			if !isValid(l, events, step, last) {
				refused(t, "UntilOf", until, e, api.ErrNone)
				continue
			}
			want := last
			for isValid(l, events, step, want+1) {
				want++
			}
			expect(t, "UntilOf", until, e, want, api.OK)
		}
	}
	if counts[true] < 1000 || counts[false] < 1000 {
		t.Errorf("%v", counts)
	}
}

func TestErrorsOfStepsAndEventsComeFirst(t *testing.T) {
	for want, c := range wrongEvents() {
		for _, number := range []int{0, -1, 2, huge} {
			valid, e := tune.ValidAt(c.steps, c.events, number)
			refused(t, "ValidAt", valid, e, want)
			toDo, e := tune.ToDo(c.steps, c.events, number)
			refused(t, "ToDo", toDo, e, want)
			until, e := tune.UntilOf(c.steps, c.events, number)
			refused(t, "UntilOf", until, e, want)
		}
	}
}

func TestErrorsOfMinutesAndSteps(t *testing.T) {
	for minute, want := range map[int]api.Errno{
		-1: api.ErrRange, 100000001: api.ErrRange, huge: api.ErrRange, -huge - 1: api.ErrRange, 0: api.ErrOrder, 9: api.ErrOrder,
	} {
		valid, e := tune.ValidAt(steps(), done(), minute)
		refused(t, "ValidAt", valid, e, want)
		toDo, e := tune.ToDo(steps(), done(), minute)
		refused(t, "ToDo", toDo, e, want)
		if want == api.ErrRange {
			valid, e = tune.ValidAt(steps(), nil, minute)
			refused(t, "ValidAt without events", valid, e, want)
		}
	}
	for _, step := range []int{-1, 2, huge, -huge - 1} {
		for _, events := range [][]api.TuneEvent{done(), nil} {
			until, e := tune.UntilOf(steps(), events, step)
			refused(t, "UntilOf", until, e, api.ErrMissing)
		}
	}
}

// P6.10

// expectValid expects that a step that is valid has all that it needs valid.
func expectValid(t *testing.T, l []api.TuneStep, valid []bool) {
	t.Helper()
	for step, s := range l {
		for _, needed := range s.Needs {
			if valid[step] && !valid[needed] {
				t.Errorf("the step %d of %v is valid, but not %d", step, l, needed)
			}
		}
	}
}

func TestNothingBecomesValidAgainLater(t *testing.T) {
	var n numbers = 15
	for range 500 {
		l := n.steps()
		events := n.events(l, 15)
		minute := 0
		if len(events) > 0 {
			minute = events[len(events)-1].Minute
		}
		valid := must(tune.ValidAt(l, events, minute))
		for range 50 {
			expectValid(t, l, valid)
			minute++
			later := must(tune.ValidAt(l, events, minute))
			for step, isValid := range later {
				if isValid && !valid[step] {
					t.Errorf("the step %d of %v is valid again at %d behind %v", step, l, minute, events)
				}
			}
			valid = later
		}
	}
}

// doneAt returns events behind which some steps are done at a minute, one after
// the other, with the last warmth.
func doneAt(events []api.TuneEvent, steps []int, minute int) []api.TuneEvent {
	warmth := 0
	if len(events) > 0 {
		warmth = events[len(events)-1].Warmth
	}
	behind := slices.Clone(events)
	for _, step := range steps {
		behind = append(behind, api.TuneEvent{Minute: minute, Step: step, Warmth: warmth})
	}
	return behind
}

func TestWhatIsToDoMakesAllValid(t *testing.T) {
	var n numbers = 16
	for range 500 {
		l := n.steps()
		events := n.events(l, 15)
		minute := 100 + n.from(0, 40)
		if len(events) > 0 {
			minute = events[len(events)-1].Minute + n.from(0, 40)
		}
		toDo := must(tune.ToDo(l, events, minute))
		behind := doneAt(events, toDo, minute)
		expectAlike(t, "ToDo of what is done", must(tune.ToDo(l, behind, minute)), nil)
		for k := range toDo {
			behind := doneAt(events, slices.Delete(slices.Clone(toDo), k, k+1), minute)
			left, e := tune.ToDo(l, behind, minute)
			if e != api.ErrState && (e != api.OK || len(left) == 0) {
				t.Errorf("%v behind %v: the step %d may be left out, error %d", l, events, toDo[k], e)
			}
		}
	}
}
