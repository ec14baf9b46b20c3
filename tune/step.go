package tune

import (
	"slices"

	"couplant/api"
	"couplant/check"
	"couplant/whole"
)

// reading is the step of an event that is a reading alone.
const reading = -1

// never is the last minute of a step that is not valid at any.
const never = -1

// record is the steps of a procedure, and events behind which they are kept or
// not.
type record struct {
	steps  []api.TuneStep
	events []api.TuneEvent
}

// lastOf returns the last event of a step, and whether the step is kept since.
func (r record) lastOf(step int) (last api.TuneEvent, isKept bool) {
	s := r.steps[step]
	for _, x := range r.events {
		if x.Step == step {
			last, isKept = x, true
		} else if slices.Contains(s.Needs, x.Step) || differ(x, last) > s.Warm {
			isKept = false
		}
	}
	return last, isKept
}

// differ returns by how much the temperature differs between two events.
func differ(a, b api.TuneEvent) int {
	return int(whole.SizeOf(a.Warmth - b.Warmth))
}

// ends returns for each step the last minute at which it is valid, if nothing
// more happens. What a step needs stands before it.
func (r record) ends() []int {
	var ends []int
	for step, s := range r.steps {
		end := never
		if last, isKept := r.lastOf(step); isKept {
			end = last.Minute + s.Lasts
		}
		for _, needed := range s.Needs {
			end = min(end, ends[needed])
		}
		ends = append(ends, end)
	}
	return ends
}

// stateError returns ErrState for an event behind those of the record if its
// step needs one that is not valid then. Its own temperature is one that was
// read before the step was done.
func (r record) stateError(x api.TuneEvent) api.Errno {
	if x.Step == reading {
		return api.OK
	}
	warmth := api.TuneEvent{Minute: x.Minute, Step: reading, Warmth: x.Warmth}
	r.events = slices.Concat(r.events, []api.TuneEvent{warmth})
	ends := r.ends()
	_, e := check.Each(r.steps[x.Step].Needs, func(_, needed int) api.Errno {
		return check.Unless(x.Minute <= ends[needed], api.ErrState)
	})
	return e
}

// ValidAt returns for each step whether it is valid at a minute.
func ValidAt(l []api.TuneStep, events []api.TuneEvent, minute int) ([]bool, api.Errno) {
	if e := minuteError(l, events, minute); e != api.OK {
		return nil, e
	}
	var valid []bool
	for _, end := range (record{l, events}).ends() {
		valid = append(valid, minute <= end)
	}
	return valid, api.OK
}

// UntilOf returns the last minute at which a step is valid, if nothing more
// happens.
func UntilOf(l []api.TuneStep, events []api.TuneEvent, step int) (int, api.Errno) {
	if e := check.First(eventsError(l, events), check.Item(step, len(l))); e != api.OK {
		return 0, e
	}
	end := record{l, events}.ends()[step]
	if n := len(events); n == 0 || end < events[n-1].Minute {
		return 0, api.ErrNone
	}
	return end, api.OK
}

// ToDo returns the steps that are not valid at a minute.
func ToDo(l []api.TuneStep, events []api.TuneEvent, minute int) ([]int, api.Errno) {
	valid, e := ValidAt(l, events, minute)
	if e != api.OK {
		return nil, e
	}
	var steps []int
	for step, isValid := range valid {
		if !isValid {
			steps = append(steps, step)
		}
	}
	return steps, api.OK
}
