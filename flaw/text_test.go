package flaw_test

import (
	"fmt"
	"strings"
	"testing"

	"couplant/api"
	"couplant/flaw"
)

// P8.8

func TestFormatMark(t *testing.T) {
	for want, m := range map[string]api.FlawMark{
		"m1 0 100 0 10 7":                      mark("m1", 0, 100, 0, 10, 7),
		"A-9 -1000000 1000000 -1 0 1000000000": mark("A-9", -1000000, 1000000, -1, 0, 1000000000),
		// It is not asked whether it is right.
		" 0 0 0 0 0":       {},
		"a b\n 5 4 3 2 -1": mark("a b\n", 5, 4, 3, 2, -1),
		"\xff 9223372036854775807 -9223372036854775808 0 0 0": mark("\xff", huge, -huge-1, 0, 0, 0),
	} {
		expectAlike(t, "FormatMark", flaw.FormatMark(m), want)
	}
}

func TestParseMark(t *testing.T) {
	for s, want := range map[string]api.FlawMark{
		"m1 0 100 0 10 7": mark("m1", 0, 100, 0, 10, 7),
		"m1 5 5 -5 -5 0":  mark("m1", 5, 5, -5, -5, 0),
		"abcdefghijkl -1000000 1000000 -1 0 1000000000": mark("abcdefghijkl", -1000000, 1000000, -1, 0, 1000000000),
	} {
		expectAlike(t, "ParseMark", must(flaw.ParseMark(s)), want)
	}
}

func TestWhatIsNoMark(t *testing.T) {
	for _, s := range []string{
		"", " ", "m1", "m1 ", "m1 0 100 0 10", "m1 0 100 0 10 7 7", "m1 0 100 0 10 7 ", " m1 0 100 0 10 7", "m1  0 100 0 10 7", "m1 0 100 0 10  7",
		"0 100 0 10 7", "a b 0 100 0 10 7", "m1 x 100 0 10 7", "m1 0 100 0 10 x", "m1 0 100 0 10 7\n", "\nm1 0 100 0 10 7", "m1\n 0 100 0 10 7",
		"m1\n0 100 0 10 7", "m1 0\n100 0 10 7", "m1 0\n 100 0 10 7", "m1\t0 100 0 10 7", "m1 0\t100 0 10 7", "\n 0 100 0 10 7",
		"m1 00 100 0 10 7", "m1 0 0100 0 10 7", "m1 -0 100 0 10 7", "m1 +0 100 0 10 7", "m1 - 100 0 10 7", "m1 0 1e2 0 10 7", "m1 0 100.0 0 10 7", "m1 0 100 0 10 ７",
		"m1 0 10000000000 0 10 7", "m1 -10000000000 100 0 10 7", "m1 0 100 0 10 99999999999", "m1 0 100 0 10 9223372036854775808",
		"- 0 100 0 10", "- 0 100 0 10 7 x", " 0 100 0 10", strings.Repeat(" ", 100000), strings.Repeat("a", 100000),
	} {
		m, e := flaw.ParseMark(s)
		refused(t, fmt.Sprintf("ParseMark of %.100q", s), m, e, api.ErrSyntax)
	}
}

func TestParseOfWrongMarks(t *testing.T) {
	for s, want := range map[string]api.Errno{
		// A name is any bytes but blanks and line feeds, also none.
		" 0 100 0 10 7":                               api.ErrName,
		"1 0 100 0 10 7":                              api.ErrName,
		"- 9999999999 0 0 0 -1":                       api.ErrName,
		"a\tb\r 0 100 0 10 7":                         api.ErrName,
		"\xff\x00 0 100 0 10 7":                       api.ErrName,
		"abcdefghijklm 0 100 0 10 7":                  api.ErrName,
		strings.Repeat("a", 100000) + " 0 100 0 10 7": api.ErrName,
		"m1 0 9999999999 0 10 7":                      api.ErrRange,
		"m1 -9999999999 100 0 10 7":                   api.ErrRange,
		"m1 0 1000001 0 10 7":                         api.ErrRange,
		"m1 0 100 -1000001 10 7":                      api.ErrRange,
		"m1 9 1 0 1000001 7":                          api.ErrRange,
		"m1 9 1 0 10 7":                               api.ErrOrder,
		"m1 0 100 11 10 -1":                           api.ErrOrder,
		"m1 0 100 0 10 -1":                            api.ErrRange,
		"m1 0 100 0 10 1000000001":                    api.ErrRange,
		"m1 0 100 0 10 9999999999":                    api.ErrRange,
	} {
		m, e := flaw.ParseMark(s)
		refused(t, fmt.Sprintf("ParseMark of %.100q", s), m, e, want)
	}
}

// P8.13

func TestParseMarkUndoesFormatMark(t *testing.T) {
	var n numbers = 17
	for range 2000 {
		m := n.marks(1, []int{5, 1000, 800000}[n.from(0, 2)])[0]
		m.Level = n.from(0, 1000000000)
		m.Name = strings.Repeat("Ab", n.from(1, 6)) + []string{"", "-", "9"}[n.from(0, 2)]
		m.Name = m.Name[:min(12, len(m.Name))]
		expectAlike(t, "ParseMark", must(flaw.ParseMark(flaw.FormatMark(m))), m)
	}
}
