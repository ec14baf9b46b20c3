package flaw

import (
	"slices"

	"couplant/api"
	"couplant/check"
)

const (
	maxEnd       = 10 * api.MaxPlace    // ends of ranges of marks, in size
	maxCellPlace = 2 * api.MaxFlawPlace // numbers of cells of areas, in size
	maxCells     = 4096                 // cells of an area
	maxDropDen   = 1000                 // denominators of shares of drops
	maxRuleDen   = 100                  // denominators of shares of rules
	maxRuleShare = 4                    // shares of rules
)

// CheckScans returns the error of scans, and the number of the one that has it.
func CheckScans(l []api.FlawScan) (int, api.Errno) {
	if len(l) > api.MaxFlawScans {
		return 0, api.ErrLarge
	}
	return check.Each(l, func(_ int, s api.FlawScan) api.Errno {
		return scanError(s)
	})
}

// CheckGrid returns the error of a grid.
func CheckGrid(g api.FlawGrid) api.Errno {
	return check.First(
		check.Within(g.Along, 1, api.MaxFlawStep),
		check.Within(g.Down, 1, api.MaxFlawStep),
	)
}

// CheckMarks returns the error of marks, and the number of the one that has it.
func CheckMarks(l []api.FlawMark) (int, api.Errno) {
	if len(l) > api.MaxFlawMarks {
		return 0, api.ErrLarge
	}
	return check.Each(l, func(n int, m api.FlawMark) api.Errno {
		return check.First(markError(m), check.Fresh(l, n, markName))
	})
}

// CheckRule returns the error of a rule.
func CheckRule(r api.FlawRule) api.Errno {
	return check.First(
		slackError(r.Along),
		slackError(r.Down),
		check.Lowest(r.Share),
		check.Within(r.Share.Den, 1, maxRuleDen),
		check.Within(r.Share.Num, 0, maxRuleShare*r.Share.Den),
	)
}

func markName(m api.FlawMark) string { return m.Name }

func levelError(level int) api.Errno {
	return check.Within(level, 0, api.MaxFlawLevel)
}

// scanError returns the error of a scan. How many cells it has is asked once its
// sides are right, so that their product is, too.
func scanError(s api.FlawScan) api.Errno {
	e := check.First(
		check.Within(s.Row, -api.MaxFlawPlace, api.MaxFlawPlace),
		check.Within(s.Column, -api.MaxFlawPlace, api.MaxFlawPlace),
		check.Within(s.Rows, 1, api.MaxFlawRows),
		check.Within(s.Columns, 1, api.MaxFlawRows),
		check.Unless(len(s.Data) == s.Rows*s.Columns, api.ErrShape),
	)
	if e != api.OK {
		return e
	}
	_, e = check.Each(s.Data, func(_, amplitude int) api.Errno {
		return levelError(amplitude)
	})
	return e
}

// askError returns the error of scans, and of an ask of them.
func askError(l []api.FlawScan, x api.FlawAsk) api.Errno {
	return check.First(scansError(l), levelError(x.Level))
}

func scansError(l []api.FlawScan) api.Errno {
	_, e := CheckScans(l)
	return e
}

// cellsError returns the error of the cells of an area.
func cellsError(l [][2]int) api.Errno {
	if e := check.Count(len(l), maxCells); e != api.OK {
		return e
	}
	_, e := check.Each(l, func(n int, cell [2]int) api.Errno {
		return check.First(
			check.Within(cell[0], -maxCellPlace, maxCellPlace),
			check.Within(cell[1], -maxCellPlace, maxCellPlace),
			check.Unless(n == 0 || compareCells(l[n-1], cell) < 0, api.ErrOrder),
		)
	})
	return e
}

// dropError returns the error of what a drop goes along, and to which share.
func dropError(along int, share api.Frac) api.Errno {
	return check.First(
		check.Unless(along == 0 || along == 1, api.ErrKind),
		check.Lowest(share),
		check.Within(share.Num, 1, share.Den),
		check.Within(share.Den, 1, maxDropDen),
	)
}

func tipError(x api.FlawTip) api.Errno {
	return check.First(
		check.Range(x.Time, 0, api.MaxTime),
		check.Range(x.Offset, 0, api.MaxPlace),
		check.Speed(x.Speed),
	)
}

// depthError returns the error of a range of depths.
func depthError(r api.Range) api.Errno {
	return check.Range(r, -api.MaxPart, api.MaxPart)
}

func markError(m api.FlawMark) api.Errno {
	return check.First(
		check.Name(m.Name),
		check.Within(m.Along.Lo, -maxEnd, maxEnd),
		check.Within(m.Along.Hi, -maxEnd, maxEnd),
		check.Within(m.Depth.Lo, -maxEnd, maxEnd),
		check.Within(m.Depth.Hi, -maxEnd, maxEnd),
		check.Unless(m.Along.Lo <= m.Along.Hi, api.ErrOrder),
		check.Unless(m.Depth.Lo <= m.Depth.Hi, api.ErrOrder),
		levelError(m.Level),
	)
}

func marksError(l []api.FlawMark) api.Errno {
	_, e := CheckMarks(l)
	return e
}

// slackError returns the error of a slack, or of a gap that a rule allows.
func slackError(slack int) api.Errno {
	return check.Within(slack, 0, api.MaxPlace)
}

// listsError returns the error of the marks of two analysts, and of a slack.
func listsError(lists [2][]api.FlawMark, slack int) api.Errno {
	return check.First(marksError(lists[0]), marksError(lists[1]), slackError(slack))
}

// pairsError returns the error of pairs of two lists that are to be right.
func pairsError(lists [2][]api.FlawMark, slack int, pairs [][2]int) api.Errno {
	_, e := check.Each(pairs, func(n int, p [2]int) api.Errno {
		e := check.First(
			check.Item(p[0], len(lists[0])),
			check.Item(p[1], len(lists[1])),
			check.Unless(!hasOneOf(pairs[:n], p), api.ErrDouble),
		)
		if e != api.OK {
			return e
		}
		return check.Unless(areAlike(lists[0][p[0]], lists[1][p[1]], slack), api.ErrProof)
	})
	return e
}

// hasOneOf returns whether one of several pairs has one of both marks of a pair.
func hasOneOf(pairs [][2]int, p [2]int) bool {
	return slices.ContainsFunc(pairs, func(q [2]int) bool {
		return q[0] == p[0] || q[1] == p[1]
	})
}

// coverError returns the error of the numbers of a cover's marks.
func coverError(lists [2][]api.FlawMark, c api.FlawCover) api.Errno {
	return check.First(
		check.Numbers(c.First, len(lists[0])),
		check.Numbers(c.Second, len(lists[1])),
	)
}
