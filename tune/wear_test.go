package tune_test

import (
	"testing"

	"couplant/api"
	"couplant/tune"
)

// P6.4

func TestWearOf(t *testing.T) {
	wear := func(before, now, speed api.Range) api.Range { return must(tune.WearOf(before, now, speed)) }
	expectAlike(t, "WearOf", wear(from(5000000), from(4000000), from(2000)), from(100))
	expectAlike(t, "WearOf of what has grown", wear(from(4000000), from(5000000), from(2000)), from(-100))
	expectAlike(t, "WearOf, rounded", wear(from(5000001), from(4000000), from(2000)), from(100, 101))
	expectAlike(t, "WearOf, rounded below 0", wear(from(4000000), from(5000001), from(2000)), from(-101, -100))
	expectAlike(t, "WearOf of the same", wear(from(7), from(7), from(500, 10000)), from(0))
	// The speed that counts depends on the sign.
	expectAlike(t, "above 0", wear(from(5000000, 6000000), from(3000000, 4000000), from(1000, 2000)), from(50, 300))
	expectAlike(t, "below 0", wear(from(3000000, 4000000), from(5000000, 6000000), from(1000, 2000)), from(-300, -50))
	expectAlike(t, "around 0", wear(from(3000000, 5000000), from(4000000), from(1000, 2000)), from(-100, 100))
	greatest := from(-1000000000000, 1000000000000)
	expectAlike(t, "the greatest numbers", wear(greatest, greatest, from(500, 10000)), from(-1000000000, 1000000000))
}

func TestWearIsAsDefined(t *testing.T) {
	var n numbers = 11
	for range 1000 {
		var r [3]api.Range
		for k, ends := range [][3]int{{-3000000, 3000000, 9}, {-3000000, 3000000, 9}, {500, 9000, 1000}} {
			lo := n.from(ends[0], ends[1])
			r[k] = from(lo, lo+n.from(0, ends[2]))
		}
		if n.from(0, 1) == 0 {
			r[0].Hi += n.from(0, 3000000)
			r[1].Lo -= n.from(0, 3000000)
		}
		lo, hi := huge, -huge
		for _, b := range []int{r[0].Lo, r[0].Hi} {
			for _, now := range []int{r[1].Lo, r[1].Hi} {
				for _, v := range []int{r[2].Lo, r[2].Hi} {
					wear := ratio((b-now)*v, 20000000)
					lo, hi = min(lo, down(wear)), max(hi, up(wear))
				}
			}
		}
		expectAlike(t, "WearOf", must(tune.WearOf(r[0], r[1], r[2])), from(lo, hi))
	}
}

func TestErrorsOfWear(t *testing.T) {
	type wear struct{ before, now, speed api.Range }
	var faults []fault[wear]
	add := func(want api.Errno, spoil func(w *wear)) {
		faults = append(faults, fault[wear]{spoil, 0, want})
	}
	for _, part := range []func(w *wear) *api.Range{
		func(w *wear) *api.Range { return &w.before },
		func(w *wear) *api.Range { return &w.now },
	} {
		for _, size := range []int{1000000000001, -1000000000001, huge, -huge - 1} {
			add(api.ErrRange, func(w *wear) { part(w).Lo = size })
			add(api.ErrRange, func(w *wear) { part(w).Hi = size })
		}
		add(api.ErrOrder, func(w *wear) { *part(w) = from(5, 4) })
	}
	for _, speed := range []int{499, 10001, 0, huge, -huge - 1} {
		add(api.ErrRange, func(w *wear) { w.speed.Lo = speed })
		add(api.ErrRange, func(w *wear) { w.speed.Hi = speed })
	}
	add(api.ErrOrder, func(w *wear) { w.speed = from(501, 500) })
	eachFault(func() wear { return wear{from(5), from(4), from(500, 10000)} }, faults, func(w wear, _ int, want api.Errno) {
		r, e := tune.WearOf(w.before, w.now, w.speed)
		refused(t, "WearOf", r, e, want)
	})
}

func TestUneven(t *testing.T) {
	uneven := func(l []int, reference, slack int) []int { return must(tune.Uneven(l, reference, slack)) }
	expectAlike(t, "Uneven", uneven([]int{100, 89, 112}, 100, 100), []int{1, 2})
	expectAlike(t, "Uneven at the ends", uneven([]int{90, 110, 89, 111}, 100, 100), []int{2, 3})
	// A thousandth of 15 is less than 1.
	expectAlike(t, "Uneven with a small slack", uneven([]int{15, 14, 16}, 15, 1), []int{1, 2})
	expectAlike(t, "Uneven between", uneven([]int{13, 14, 16, 17}, 15, 100), []int{0, 3})
	expectAlike(t, "Uneven without slack", uneven([]int{7, 8, 7, 6}, 7, 0), []int{1, 3})
	expectAlike(t, "Uneven with all slack", uneven([]int{0, 14, 15, 1000000}, 7, 1000), []int{2, 3})
	expectAlike(t, "Uneven of none", uneven(nil, 7, 0), nil)
	expectAlike(t, "Uneven of an empty list", uneven([]int{}, 7, 0), nil)
	expectAlike(t, "Uneven of even ones", uneven([]int{7, 7}, 7, 0), nil)
	expectAlike(t, "Uneven of many", uneven(make([]int, 16), 1000000, 999), []int{0, 1, 2, 3, 4, 5, 6, 7, 8, 9, 10, 11, 12, 13, 14, 15})
}

func TestUnevenIsAsDefined(t *testing.T) {
	var n numbers = 12
	for range 500 {
		reference, slack := n.from(1, 300), n.from(0, 1000)
		var l, want []int
		for k := range n.from(0, 16) {
			l = append(l, n.from(0, 700))
			far := size(ratio(l[k]-reference, reference))
			if far.Cmp(ratio(slack, 1000)) > 0 {
				want = append(want, k)
			}
		}
		expectAlike(t, "Uneven", must(tune.Uneven(l, reference, slack)), want)
	}
}

func TestErrorsOfUneven(t *testing.T) {
	type elements struct {
		l                []int
		reference, slack int
	}
	var faults []fault[elements]
	add := func(want api.Errno, spoil func(x *elements)) {
		faults = append(faults, fault[elements]{spoil, 0, want})
	}
	add(api.ErrLarge, func(x *elements) { x.l = append(x.l, make([]int, 14)...) })
	for _, echo := range []int{-1, 1000001, huge, -huge - 1} {
		add(api.ErrRange, func(x *elements) { x.l[0] = echo })
		add(api.ErrRange, func(x *elements) { x.l[2] = echo })
	}
	for _, reference := range []int{0, -1, 1000001, huge, -huge - 1} {
		add(api.ErrRange, func(x *elements) { x.reference = reference })
	}
	for _, slack := range []int{-1, 1001, huge, -huge - 1} {
		add(api.ErrRange, func(x *elements) { x.slack = slack })
	}
	eachFault(func() elements { return elements{[]int{0, 7, 1000000}, 7, 10} }, faults, func(x elements, _ int, want api.Errno) {
		uneven, e := tune.Uneven(x.l, x.reference, x.slack)
		refused(t, "Uneven", uneven, e, want)
	})
}
