package flaw

import (
	"cmp"
	"slices"

	"couplant/api"
	"couplant/check"
	"couplant/whole"
)

// none stands for the mate of a mark that has none.
const none = -1

// pairing is as many right pairs of two lists as there may be.
type pairing struct {
	// mates are, for each mark of the second list, the number of the one of the
	// first list that it is paired with, or none.
	mates []int
	// vain are the marks of the second list that are alike to one of the first
	// list that is not paired, and those that the mates of such ones might be
	// paired with instead, and so on: all of them are paired.
	vain []bool
}

// paired pairs each mark of the first list, if it can: with a mark of the second
// one that has no mate, or whose mate finds another one. A mark that was asked
// for in vain once stays so: its mate cannot be paired otherwise.
func paired(a, b []api.FlawMark, slack int) pairing {
	p := pairing{slices.Repeat([]int{none}, len(b)), make([]bool, len(b))}
	var asked []bool
	var find func(first int) bool
	find = func(first int) bool {
		for second := range b {
			if asked[second] || !areAlike(a[first], b[second], slack) {
				continue
			}
			asked[second] = true
			if p.mates[second] == none || find(p.mates[second]) {
				p.mates[second] = first
				return true
			}
		}
		return false
	}
	for first := range a {
		asked = slices.Clone(p.vain)
		if !find(first) {
			p.vain = asked
		}
	}
	return p
}

// pairs returns the pairs, ascending by the marks of the first list.
func (p pairing) pairs() [][2]int {
	var pairs [][2]int
	for second, first := range p.mates {
		if first != none {
			pairs = append(pairs, [2]int{first, second})
		}
	}
	slices.SortFunc(pairs, func(a, b [2]int) int { return cmp.Compare(a[0], b[0]) })
	return pairs
}

// cover returns one mark of each pair: that of the second list, if it was asked
// for in vain. A mark of the first list that is not in it has no mate, or one of
// those: either way all that are alike to it were asked for in vain.
func (p pairing) cover() api.FlawCover {
	var c api.FlawCover
	for second, first := range p.mates {
		switch {
		case first == none:
		case p.vain[second]:
			c.Second = append(c.Second, second)
		default:
			c.First = append(c.First, first)
		}
	}
	slices.Sort(c.First)
	return c
}

// Alike returns whether two marks are alike within a slack.
func Alike(a, b api.FlawMark, slack int) (bool, api.Errno) {
	if e := check.First(markError(a), markError(b), slackError(slack)); e != api.OK {
		return false, e
	}
	return areAlike(a, b, slack), api.OK
}

func areAlike(a, b api.FlawMark, slack int) bool {
	return gap(a.Along, b.Along) <= slack && gap(a.Depth, b.Depth) <= slack
}

// Compared returns as many right pairs of two lists as there may be, and a cover
// with as many members.
func Compared(a, b []api.FlawMark, slack int) ([][2]int, api.FlawCover, api.Errno) {
	if e := listsError([2][]api.FlawMark{a, b}, slack); e != api.OK {
		return nil, api.FlawCover{}, e
	}
	p := paired(a, b, slack)
	return p.pairs(), p.cover(), api.OK
}

// CheckPairs accepts right pairs, and returns how many there are.
func CheckPairs(lists [2][]api.FlawMark, slack int, pairs [][2]int) (int, api.Errno) {
	if e := listsError(lists, slack); e != api.OK {
		return 0, e
	}
	if e := pairsError(lists, slack, pairs); e != api.OK {
		return 0, e
	}
	return len(pairs), api.OK
}

// CheckCover accepts a cover, and returns how many members it has.
func CheckCover(lists [2][]api.FlawMark, slack int, c api.FlawCover) (int, api.Errno) {
	if e := check.First(listsError(lists, slack), coverError(lists, c)); e != api.OK {
		return 0, e
	}
	if !covers(lists, slack, c) {
		return 0, api.ErrProof
	}
	return len(c.First) + len(c.Second), api.OK
}

// covers returns whether each two marks that are alike have one in a cover.
func covers(lists [2][]api.FlawMark, slack int, c api.FlawCover) bool {
	for n, first := range lists[0] {
		if slices.Contains(c.First, n) {
			continue
		}
		for k, second := range lists[1] {
			if areAlike(first, second, slack) && !slices.Contains(c.Second, k) {
				return false
			}
		}
	}
	return true
}

// Agreement returns the number of pairs of two lists, divided by that of all
// marks, those of a pair counted once.
func Agreement(a, b []api.FlawMark, slack int) (api.Frac, api.Errno) {
	e := check.First(
		listsError([2][]api.FlawMark{a, b}, slack),
		check.Unless(len(a)+len(b) > 0, api.ErrZero),
	)
	if e != api.OK {
		return api.Frac{}, e
	}
	pairs := len(paired(a, b, slack).pairs())
	return whole.LowestTerms(pairs, len(a)+len(b)-pairs), api.OK
}
