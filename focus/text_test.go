package focus_test

import (
	"strconv"
	"strings"
	"testing"

	"couplant/api"
	"couplant/focus"
)

// text is that of the chapter's example.
const text = "grid 0 400 2 1 50\n1300 0\n"

// textOf returns the text of powers, by definition.
func textOf(g api.FocusGrid, powers []int) string {
	t := "grid"
	for _, n := range []int{g.From.X, g.From.Z, g.Columns, g.Rows, g.Step} {
		t += " " + strconv.Itoa(n)
	}
	for n, power := range powers {
		if n%g.Columns == 0 {
			t += "\n"
		} else {
			t += " "
		}
		t += strconv.Itoa(power)
	}
	return t + "\n"
}

// parsed is what ParsePowers returns but for its error.
type parsed struct {
	g      api.FocusGrid
	powers []int
	line   int
}

func parse(s string) (parsed, api.Errno) {
	g, powers, line, e := focus.ParsePowers(s)
	return parsed{g, powers, line}, e
}

func expectParsed(t *testing.T, s string, g api.FocusGrid, powers []int) {
	t.Helper()
	x, e := parse(s)
	expect(t, "ParsePowers of "+s, x, e, parsed{g, powers, 0}, api.OK)
}

func expectUnparsed(t *testing.T, s string, line int, want api.Errno) {
	t.Helper()
	x, e := parse(s)
	expect(t, "ParsePowers of "+s, x, e, parsed{line: line}, want)
}

// P5.7, and P5.11: ParsePowers undoes PrintPowers

func TestPrintPowers(t *testing.T) {
	g := api.FocusGrid{From: api.Spot{Z: 400}, Columns: 2, Rows: 1, Step: 50}
	expectAlike(t, "PrintPowers", must(focus.PrintPowers(g, []int{1300, 0})), text)
	g = api.FocusGrid{From: api.Spot{X: -7, Z: -100000}, Columns: 1, Rows: 3, Step: 10000}
	expectAlike(t, "PrintPowers", must(focus.PrintPowers(g, []int{0, 1000000000000000, 5})), "grid -7 -100000 1 3 10000\n0\n1000000000000000\n5\n")
	var n numbers = 10
	for range 200 {
		g := api.FocusGrid{From: api.Spot{X: n.from(-100000, 90000), Z: n.from(-100000, 90000)}, Columns: n.from(1, 5), Rows: n.from(1, 5), Step: n.from(1, 2000)}
		powers := n.list(g.Columns*g.Rows, 0, 1000000000000000)
		s := must(focus.PrintPowers(g, powers))
		expectAlike(t, "PrintPowers", s, textOf(g, powers))
		expectParsed(t, s, g, powers)
	}
}

// The longest text is not too long.
func TestTheLongestText(t *testing.T) {
	g := api.FocusGrid{From: api.Spot{X: -100000, Z: -100000}, Columns: 40, Rows: 40, Step: 2000}
	powers := make([]int, 1600)
	for k := range powers {
		powers[k] = 1000000000000000
	}
	s := must(focus.PrintPowers(g, powers))
	expectAlike(t, "PrintPowers", s, textOf(g, powers))
	expectParsed(t, s, g, powers)
}

func TestParsePowersTellsTheWrongLine(t *testing.T) {
	for _, x := range []struct {
		s    string
		line int
	}{
		{"", 1}, {"\n", 1}, {"grid 0 400 2 1 50", 1}, {"grid 0 400 2 1 50\n", 2}, {"grid 0 400 2 1 50\n\n", 2},
		{"grid 0 400 2 1 50\n1300\n", 2}, {"grid 0 400 2 1 50\n1300 0", 2}, {"grid 0 400 2 1 50\n1300 0 0\n", 2},
		{text + "1\n", 3}, {text + "\n", 3}, {text + "x", 3}, {text + text, 3}, {text + "1300 0\n", 3}, {"\n" + text, 1},
		{"grid 0 400 1 2 50\n1300 0\n", 2}, {"grid 0 400 1 2 50\n1300\n", 3}, {"grid 0 400 1 2 50\n1300\n0", 3}, {"grid 0 400 1 2 50\n1300\n0\n5\n", 4},
		{"1300 0\n", 1}, {"1300 0\n" + text, 1},
		// Sides that no grid has are wrong, other numbers that it has not are
		// told behind all lines.
		{"grid 0 400 0 1 50\n\n", 1}, {"grid 0 400 1 0 50\n", 1}, {"grid 0 400 -1 -1 50\n5\n", 1}, {"grid 0 400 41 1 50\n" + strings.Repeat("0 ", 40) + "0\n", 1},
		{"grid 0 400 1 41 50\n" + strings.Repeat("0\n", 41), 1}, {"grid 0 400 999999999999999999 999999999999999999 50\n", 1}, {"grid 0 400 1 999999999999999999 50\n0\n", 1},
		{"grid 999999 400 2 1 50\n1300\n", 2}, {"grid 0 400 2 1 0\n-1 x\n", 2},
	} {
		expectUnparsed(t, x.s, x.line, api.ErrSyntax)
	}
	for n, line := range []string{"grid 0 400 2 2 50", "1300 0", "-5 7"} {
		lines := []string{"grid 0 400 2 2 50\n", "1300 0\n", "-5 7\n"}
		short, numbers := line[:strings.LastIndex(line, " ")], line[strings.Index(line, " ")+1:]
		for _, wrong := range []string{
			"", " ", "x", line + " ", " " + line, line + "\r", line + "x", line + " 1", line + ".0", line + "000000000000000000",
			short, short + " ", short + " -0", short + " 007", short + " +7", short + " -", short + " 1000000000000000000", short + " -1000000000000000000",
			short + " 99999999999999999999", strings.Replace(line, " ", "  ", 1), strings.Replace(line, " ", "\t", 1),
			strings.Replace("grid "+line, "grid", "Grid", 1), "grid " + line, numbers,
		} {
			lines[n] = wrong + "\n"
			expectUnparsed(t, strings.Join(lines, ""), n+1, api.ErrSyntax)
			expectUnparsed(t, strings.Join(lines, "")+"x", n+1, api.ErrSyntax)
			expectUnparsed(t, strings.Join(lines[:n+1], ""), n+1, api.ErrSyntax)
		}
	}
}

func TestParsePowersRefusesWrongGridsAndPowers(t *testing.T) {
	for s, want := range map[string]api.Errno{
		"grid 100001 400 2 1 50\n1300 0\n":           api.ErrRange,
		"grid 0 -100001 2 1 50\n1300 0\n":            api.ErrRange,
		"grid 999999999999999999 400 2 1 50\n1 0\n":  api.ErrRange,
		"grid 0 400 2 1 0\n1300 0\n":                 api.ErrRange,
		"grid 0 400 2 1 10001\n1300 0\n":             api.ErrRange,
		"grid 0 400 2 1 -999999999999999999\n1 0\n":  api.ErrRange,
		"grid 99999 400 2 1 50\n1300 0\n":            api.ErrLarge,
		"grid 99999 400 2 1 50\n-1 0\n":              api.ErrLarge,
		"grid 0 400 2 1 50\n1300 -1\n":               api.ErrRange,
		"grid 0 400 2 1 50\n1000000000000001 0\n":    api.ErrRange,
		"grid 0 400 2 1 50\n999999999999999999 0\n":  api.ErrRange,
		"grid 0 400 2 1 50\n0 -999999999999999999\n": api.ErrRange,
		"grid 0 400 1 1 50\n" + "1000000000000001\n": api.ErrRange,
	} {
		expectUnparsed(t, s, 0, want)
		// A line that is wrong is told ahead of that.
		expectUnparsed(t, s+"x\n", 3, api.ErrSyntax)
	}
	expectParsed(t, "grid 0 400 1 1 50\n1000000000000000\n", api.FocusGrid{From: api.Spot{Z: 400}, Columns: 1, Rows: 1, Step: 50}, []int{1000000000000000})
}

func TestParsePowersRefusesLongTexts(t *testing.T) {
	expectUnparsed(t, text+strings.Repeat("\n", 60001-len(text)), 0, api.ErrLarge)
	expectUnparsed(t, text+strings.Repeat("\n", 60000-len(text)), 3, api.ErrSyntax)
	expectUnparsed(t, strings.Repeat("x", 60001), 0, api.ErrLarge)
	expectUnparsed(t, strings.Repeat("x", 60000), 1, api.ErrSyntax)
}
