package tune_test

import (
	"fmt"
	"math"
	"math/big"
	"slices"
	"testing"

	"couplant/api"
)

// huge is the greatest number there is.
const huge = math.MaxInt

// expect compares a result and an error with the ones that are promised. As
// texts, nil and an empty list are the same.
func expect[T any](t *testing.T, what string, got T, e api.Errno, want T, f api.Errno) {
	t.Helper()
	if fmt.Sprint(got) != fmt.Sprint(want) || e != f {
		t.Errorf("%s: %v, error %d; want %v, error %d", what, got, e, want, f)
	}
}

// expectAlike compares two results that are without an error.
func expectAlike[T any](t *testing.T, what string, got, want T) {
	t.Helper()
	expect(t, what, got, api.OK, want, api.OK)
}

// refused expects an error, and beside it the zero value.
func refused[T any](t *testing.T, what string, got T, e, want api.Errno) {
	t.Helper()
	var zero T
	expect(t, what, got, e, zero, want)
}

// must returns a result that has no error.
func must[T any](result T, e api.Errno) T {
	if e != api.OK {
		panic(fmt.Sprint("error ", e))
	}
	return result
}

// from returns the range of two ends, of the same one, if there is one alone.
func from(ends ...int) api.Range {
	return api.Range{Lo: ends[0], Hi: ends[len(ends)-1]}
}

// line is the table of the chapter's first example.
func line() []api.TuneRow {
	return []api.TuneRow{{Depth: 1000, Echo: 800}, {Depth: 2000, Echo: 400}}
}

// four is the table of the chapter's second example.
func four() []api.TuneRow {
	return []api.TuneRow{{Depth: 0, Echo: 100}, {Depth: 10, Echo: 90}, {Depth: 20, Echo: 81}, {Depth: 30, Echo: 70}}
}

// block is the arcs of the chapter's third example.
func block() []api.TuneArc {
	return []api.TuneArc{{Radius: 2500, Time: from(20000000)}, {Radius: 5000, Time: from(35000000)}}
}

// bent is the arcs of the chapter's fourth example, which contradict.
func bent() []api.TuneArc {
	return []api.TuneArc{{Radius: 1000, Time: from(10, 12)}, {Radius: 2000, Time: from(20, 22)}, {Radius: 3000, Time: from(40, 42)}}
}

// steps is the procedure of the chapter's example, done the events of it.
func steps() []api.TuneStep {
	return []api.TuneStep{{Name: "wedge", Lasts: 100, Warm: 50}, {Name: "gain", Lasts: 50, Warm: 50, Needs: []int{0}}}
}

func done() []api.TuneEvent {
	return []api.TuneEvent{{Minute: 0, Step: 0, Warmth: 200}, {Minute: 10, Step: 1, Warmth: 210}}
}

// numbers makes the same numbers in each run of the tests.
type numbers uint64

// from returns a number from least to most.
func (n *numbers) from(least, most int) int {
	*n = *n*6364136223846793005 + 1442695040888963407
	return least + int(uint64(*n>>33)%uint64(most-least+1))
}

// ascending returns so many numbers from least on that ascend by at most so much.
func (n *numbers) ascending(count, least, step int) []int {
	var l []int
	at := least
	for range count {
		l = append(l, at)
		at += n.from(1, step)
	}
	return l
}

// some returns some of the numbers below count, ascending.
func (n *numbers) some(count int) []int {
	var l []int
	for k := range count {
		if n.from(0, 1) == 0 {
			l = append(l, k)
		}
	}
	return l
}

// table returns a table whose echoes are at most so much.
func (n *numbers) table(rows, step, most int) []api.TuneRow {
	var l []api.TuneRow
	for _, depth := range n.ascending(rows, n.from(0, step), step) {
		l = append(l, api.TuneRow{Depth: depth, Echo: n.from(1, most)})
	}
	return l
}

// arcs returns arcs that a delay and a slowness explain nearly; it depends on
// the numbers whether some other ones do.
func (n *numbers) arcs(count int) []api.TuneArc {
	var l []api.TuneArc
	delay, slowness, width := n.from(0, 300), n.from(-3, 30), n.from(0, 60)
	for _, radius := range n.ascending(count, n.from(1, 9), 9) {
		at := delay + 2*radius*slowness + n.from(-20, 20)
		l = append(l, api.TuneArc{Radius: radius, Time: from(max(0, at), max(0, at)+n.from(0, width))})
	}
	return l
}

// wideArcs returns arcs whose radii and times are as great as they may be.
func (n *numbers) wideArcs(count int) []api.TuneArc {
	var l []api.TuneArc
	for _, radius := range n.ascending(count, n.from(1, 40000), 5000) {
		lo := n.from(0, 500000000000)
		l = append(l, api.TuneArc{Radius: radius, Time: from(lo, n.from(lo, 1000000000000))})
	}
	return l
}

// steps returns a procedure whose steps last for some minutes alone.
func (n *numbers) steps() []api.TuneStep {
	var l []api.TuneStep
	for step := range n.from(1, 5) {
		l = append(l, api.TuneStep{Name: fmt.Sprint("s", step), Lasts: n.from(1, 40), Warm: n.from(0, 20), Needs: n.some(step)})
	}
	return l
}

// event returns what may happen behind events, right or not.
func (n *numbers) event(l []api.TuneStep, events []api.TuneEvent) api.TuneEvent {
	x := api.TuneEvent{Step: n.from(-1, len(l)-1), Warmth: n.from(-8, 8)}
	if len(events) > 0 {
		x.Minute = events[len(events)-1].Minute + n.from(0, 6)
	}
	return x
}

// events returns at most so many events that are right.
func (n *numbers) events(l []api.TuneStep, most int) []api.TuneEvent {
	var events []api.TuneEvent
	for range n.from(0, most) {
		if x := n.event(l, events); isPossible(l, events, x) {
			events = append(events, x)
		}
	}
	return events
}

// ratio returns a / b.
func ratio(a, b int) *big.Rat {
	return big.NewRat(int64(a), int64(b))
}

func sum(a, b *big.Rat) *big.Rat        { return new(big.Rat).Add(a, b) }
func difference(a, b *big.Rat) *big.Rat { return new(big.Rat).Sub(a, b) }
func product(a, b *big.Rat) *big.Rat    { return new(big.Rat).Mul(a, b) }
func quotient(a, b *big.Rat) *big.Rat   { return new(big.Rat).Quo(a, b) }
func size(a *big.Rat) *big.Rat          { return new(big.Rat).Abs(a) }

// down and up return a number rounded down and up.
func down(r *big.Rat) int {
	return int(new(big.Int).Div(r.Num(), r.Denom()).Int64())
}

func up(r *big.Rat) int {
	return -down(new(big.Rat).Neg(r))
}

// lineOf returns the height at x of the line through two places.
func lineOf(x0, y0, x1, y1, x int) *big.Rat {
	slope := ratio(y1-y0, x1-x0)
	return sum(ratio(y0, 1), product(slope, ratio(x-x0, 1)))
}

// echoOf returns the echo at a depth, by definition, or nil.
func echoOf(l []api.TuneRow, depth int) *big.Rat {
	for n, r := range l {
		if r.Depth == depth {
			return ratio(r.Echo, 1)
		}
		if n > 0 && l[n-1].Depth < depth && depth < r.Depth {
			return lineOf(l[n-1].Depth, l[n-1].Echo, r.Depth, r.Echo, depth)
		}
	}
	return nil
}

// slownesses returns the ends of what is possible, by definition; the least is
// above the greatest, if nothing is.
func slownesses(l []api.TuneArc) (least, greatest *big.Rat) {
	for k, b := range l {
		for _, a := range l[:k] {
			twice := 2 * (b.Radius - a.Radius)
			lo, hi := ratio(b.Time.Lo-a.Time.Hi, twice), ratio(b.Time.Hi-a.Time.Lo, twice)
			if least == nil || lo.Cmp(least) > 0 {
				least = lo
			}
			if greatest == nil || hi.Cmp(greatest) < 0 {
				greatest = hi
			}
		}
	}
	return least, greatest
}

// delaysOf returns the ends of the delays that explain arcs with a slowness.
func delaysOf(l []api.TuneArc, slowness *big.Rat) (least, greatest *big.Rat) {
	for _, a := range l {
		way := product(ratio(2*a.Radius, 1), slowness)
		lo, hi := difference(ratio(a.Time.Lo, 1), way), difference(ratio(a.Time.Hi, 1), way)
		if least == nil || lo.Cmp(least) > 0 {
			least = lo
		}
		if greatest == nil || hi.Cmp(greatest) < 0 {
			greatest = hi
		}
	}
	return least, greatest
}

// isKept returns whether a step is kept behind events, by definition, and the
// minute of its last event.
func isKept(l []api.TuneStep, events []api.TuneEvent, step int) (minute int, kept bool) {
	last := -1
	for n, x := range events {
		if x.Step == step {
			last = n
		}
	}
	if last < 0 {
		return 0, false
	}
	for _, x := range events[last+1:] {
		change := x.Warmth - events[last].Warmth
		if change > l[step].Warm || -change > l[step].Warm || slices.Contains(l[step].Needs, x.Step) {
			return 0, false
		}
	}
	return events[last].Minute, true
}

// isValid returns whether a step is valid at a minute, by definition.
func isValid(l []api.TuneStep, events []api.TuneEvent, step, minute int) bool {
	at, kept := isKept(l, events, step)
	if !kept || minute > at+l[step].Lasts {
		return false
	}
	for _, needed := range l[step].Needs {
		if !isValid(l, events, needed, minute) {
			return false
		}
	}
	return true
}

// isPossible returns whether an event may follow others, by definition.
func isPossible(l []api.TuneStep, before []api.TuneEvent, x api.TuneEvent) bool {
	if x.Step < 0 {
		return true
	}
	behind := append(slices.Clone(before), api.TuneEvent{Minute: x.Minute, Step: -1, Warmth: x.Warmth})
	for _, needed := range l[x.Step].Needs {
		if !isValid(l, behind, needed, x.Minute) {
			return false
		}
	}
	return true
}

// fault is something that makes an argument wrong, and what is told then.
type fault[T any] struct {
	spoil func(x *T)
	n     int
	want  api.Errno
}

// eachFault has every fault judged alone, and together with all that are told
// behind it.
func eachFault[T any](fresh func() T, faults []fault[T], judge func(x T, n int, want api.Errno)) {
	for k, f := range faults {
		x := fresh()
		f.spoil(&x)
		judge(x, f.n, f.want)
		x = fresh()
		for j := len(faults) - 1; j >= k; j-- {
			faults[j].spoil(&x)
		}
		judge(x, f.n, f.want)
	}
}

// wrongTables returns a table for each error that CheckTable may tell.
func wrongTables() map[api.Errno][]api.TuneRow {
	return map[api.Errno][]api.TuneRow{
		api.ErrShape: nil,
		api.ErrLarge: make([]api.TuneRow, 21),
		api.ErrRange: {{Depth: 1000, Echo: 800}, {Depth: 2000, Echo: 0}},
		api.ErrOrder: {{Depth: 1000, Echo: 800}, {Depth: 1000, Echo: 400}},
	}
}

// wrongArcs returns arcs for each error that CheckArcs may tell.
func wrongArcs() map[api.Errno][]api.TuneArc {
	return map[api.Errno][]api.TuneArc{
		api.ErrShape: block()[:1],
		api.ErrLarge: make([]api.TuneArc, 13),
		api.ErrRange: {{Radius: 0}, {Radius: 1}},
		api.ErrOrder: {{Radius: 1}, {Radius: 1}},
	}
}

// wrongEvents returns steps and events for each error that CheckEvents may tell.
func wrongEvents() map[api.Errno]calibration {
	return map[api.Errno]calibration{
		api.ErrShape:   {nil, done()},
		api.ErrName:    {[]api.TuneStep{{Lasts: 1}}, nil},
		api.ErrExists:  {[]api.TuneStep{{Name: "a", Lasts: 1}, {Name: "a"}}, nil},
		api.ErrRange:   {[]api.TuneStep{{Name: "a"}}, nil},
		api.ErrLarge:   {steps(), make([]api.TuneEvent, 61)},
		api.ErrMissing: {steps(), []api.TuneEvent{{Step: 2}}},
		api.ErrOrder:   {steps(), []api.TuneEvent{{Minute: 1}, {Minute: 0}}},
		api.ErrState:   {steps(), []api.TuneEvent{{Step: 1}}},
	}
}

// calibration is the steps of a procedure, and events.
type calibration struct {
	steps  []api.TuneStep
	events []api.TuneEvent
}
