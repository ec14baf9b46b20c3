package bench_test

import (
	"strconv"
	"strings"
	"testing"

	"couplant/api"
	"couplant/bench"
)

// text is that of the specimen of the chapter's examples.
const text = "times 3900000 50000\nout 2500 5000 0 1000\nback 2500 5000 0 1000\nelement 0 -300\npulse 3 -2\npore 0 400 10\n"

// head is the lines of text ahead of its elements.
const head = "times 3900000 50000\nout 2500 5000 0 1000\nback 2500 5000 0 1000\n"

// textOf returns the text of a specimen, by definition.
func textOf(s api.BenchSpecimen) string {
	t := ""
	add := func(word string, numbers ...int) {
		t += word
		for _, n := range numbers {
			t += " " + strconv.Itoa(n)
		}
		t += "\n"
	}
	add("times", s.Array.Times.First, s.Array.Times.Step)
	for n, m := range []api.RayMode{s.Array.Out, s.Array.Back} {
		add([]string{"out", "back"}[n], m.Wedge, m.Metal, m.Skips, m.Thick)
	}
	for _, p := range s.Array.Elements {
		add("element", p.X, p.Z)
	}
	add("pulse", s.Pulse...)
	for _, f := range s.Flaws {
		if f.Kind == api.BenchPore {
			add("pore", f.From.X, f.From.Z, f.Amplitude)
		} else {
			add("plane", f.From.X, f.From.Z, f.To.X, f.To.Z, f.Pieces, f.Amplitude, f.Tip)
		}
	}
	return t
}

// P4.6

func TestFormatFlaw(t *testing.T) {
	for _, x := range []struct {
		f    api.BenchFlaw
		want string
	}{
		{pore(0, 400, 10), "pore 0 400 10"},
		{pore(-5, -400, -10), "pore -5 -400 -10"},
		{api.BenchFlaw{}, "pore 0 0 0"},
		{level(), "plane 0 400 30 400 3 5 2"},
		{plane(api.Spot{X: -1, Z: -2}, api.Spot{X: -3, Z: -4}, -5, -6, -7), "plane -1 -2 -3 -4 -5 -6 -7"},
		// It is not asked whether it is right.
		{api.BenchFlaw{To: at, Pieces: 3, Tip: 5}, "pore 0 0 0"},
		{pore(huge, -huge-1, 5), "pore 9223372036854775807 -9223372036854775808 5"},
		{api.BenchFlaw{Kind: 1}, "plane 0 0 0 0 0 0 0"},
		{api.BenchFlaw{Kind: 2, From: at}, ""},
		{api.BenchFlaw{Kind: -1}, ""},
		{api.BenchFlaw{Kind: huge}, ""},
		{api.BenchFlaw{Kind: -huge - 1}, ""},
	} {
		if s := bench.FormatFlaw(x.f); s != x.want {
			t.Errorf("FormatFlaw: %q; want %q", s, x.want)
		}
	}
}

func TestParseFlaw(t *testing.T) {
	expectAlike(t, "ParseFlaw", must(bench.ParseFlaw("pore 0 400 10")), pore(0, 400, 10))
	expectAlike(t, "ParseFlaw", must(bench.ParseFlaw("pore -100000 100000 -1000")), pore(-100000, 100000, -1000))
	expectAlike(t, "ParseFlaw", must(bench.ParseFlaw("plane 0 400 30 400 3 5 2")), level())
	want := plane(api.Spot{X: -1, Z: -2}, api.Spot{X: -3, Z: -4}, 5, -6, -7)
	expectAlike(t, "ParseFlaw", must(bench.ParseFlaw("plane -1 -2 -3 -4 5 -6 -7")), want)
}

// wrongFlaws returns lines that are no flaws.
func wrongFlaws() []string {
	return []string{
		"", " ", "pore", "plane", "pore ", "pore 0 400", "pore 0 400 10 0", "pore 0 400 10 ", " pore 0 400 10", "pore  0 400 10",
		"pore\t0\t400\t10", "pore 0 400 10\r", "Pore 0 400 10", "PORE 0 400 10", "pores 0 400 10", "0 400 10", "flaw 0 400 10",
		"pore 00 400 10", "pore +0 400 10", "pore -0 400 10", "pore 0 400.0 10", "pore 0 4e2 10", "pore 0 400 x", "pore 0 400 -", "pore 0 0x4 1",
		"pore 0 400 30 400 3 5 2", "plane 0 400 10", "plane 0 400 30 400 3 5", "plane 0 400 30 400 3 5 2 1", "plane 0 400 30 400 3 5 02",
		"pore 0 400 \u0661", "pore 0 400 10\x00",
		// More than 13 digits.
		"pore 10000000000000 400 10", "pore -10000000000000 400 10", "pore 0 400 99999999999999", "plane 0 400 30 400 3 5 20000000000000",
		"pore 0 9223372036854775808 10",
		// What is no text is told ahead of a flaw that is wrong.
		"pore 0 400 1001 x", "pore 100001 400 01", "plane 0 0 0 0 0 0",
	}
}

func TestParseFlawRefuses(t *testing.T) {
	for _, s := range append(wrongFlaws(), "pore 0 400 10\n", "pore 0 400 10\npore 0 400 10", "\npore 0 400 10") {
		f, e := bench.ParseFlaw(s)
		refused(t, "ParseFlaw of "+s, f, e, api.ErrSyntax)
	}
	for s, want := range map[string]api.Errno{
		"pore 100001 400 10":                  api.ErrRange,
		"pore 0 -9999999999999 10":            api.ErrRange,
		"pore 9999999999999 400 10":           api.ErrRange,
		"pore 0 400 -1001":                    api.ErrRange,
		"plane 0 400 100001 400 3 5 2":        api.ErrRange,
		"plane 0 400 30 400 0 5 2":            api.ErrRange,
		"plane 0 400 30 400 21 5 2":           api.ErrRange,
		"plane 0 400 30 400 3 5 1001":         api.ErrRange,
		"plane 0 400 0 400 3 5 2":             api.ErrZero,
		"plane 0 400 0 400 9999999999999 5 2": api.ErrRange,
	} {
		f, e := bench.ParseFlaw(s)
		refused(t, "ParseFlaw of "+s, f, e, want)
	}
}

func TestPrint(t *testing.T) {
	expectAlike(t, "Print", must(bench.Print(one())), text)
	expectAlike(t, "Print without flaws", must(bench.Print(with())), head+"element 0 -300\npulse 3 -2\n")
	expectAlike(t, "Print of a plane", must(bench.Print(with(level()))), head+"element 0 -300\npulse 3 -2\nplane 0 400 30 400 3 5 2\n")
	var n numbers = 9
	for range 100 {
		s := n.specimen()
		expectAlike(t, "Print", must(bench.Print(s)), textOf(s))
	}
	for want, s := range wrongSpecimens() {
		x, e := bench.Print(s)
		refused(t, "Print", x, e, want)
	}
}

func expectParsed(t *testing.T, s string, want api.BenchSpecimen) {
	t.Helper()
	x, n, e := bench.Parse(s)
	expect(t, "Parse", x, e, want, api.OK)
	if n != 0 {
		t.Errorf("Parse of %q: line %d", s, n)
	}
}

func expectUnparsed(t *testing.T, s string, line int, want api.Errno) {
	t.Helper()
	x, n, e := bench.Parse(s)
	if n != line || e != want {
		t.Errorf("Parse of %q: line %d, error %d; want %d, %d", s, n, e, line, want)
	}
	refused(t, "Parse", x, e, want)
}

func TestParse(t *testing.T) {
	expectParsed(t, text, one())
	expectParsed(t, head+"element 0 -300\npulse 3 -2\n", with())
	s := two()
	s.Pulse = []int{5}
	s.Flaws = []api.BenchFlaw{level(), pore(1, 1, 0), level()}
	expectParsed(t, textOf(s), s)
	s.Array.Times = api.Sampling{First: 1000000000000, Step: 100000000}
	expectParsed(t, textOf(s), s)
}

// Each line may be wrong, or be none, or have no end.
func TestParseTellsTheWrongLine(t *testing.T) {
	lines := strings.SplitAfter(head+"element 0 -300\nelement 5 -300\npulse 3 -2\npore 0 400 10\nplane 0 400 30 400 3 5 2\n", "\n")
	lines = lines[:len(lines)-1]
	for n := range lines {
		ahead, behind := strings.Join(lines[:n], ""), strings.Join(lines[n+1:], "")
		line := strings.TrimSuffix(lines[n], "\n")
		expectUnparsed(t, ahead+line, n+1, api.ErrSyntax)
		if n < 6 {
			expectUnparsed(t, ahead, n+1, api.ErrSyntax)
		}
		for _, wrong := range []string{
			"", " ", "x", line + " ", " " + line, line + "\r", line + "x", line + " x", line + " 01", line + " -0",
			strings.Replace(line, " ", "  ", 1), strings.Replace(line, " ", "\t", 1), strings.ToUpper(line),
			line[:strings.Index(line, " ")], line[strings.Index(line, " ")+1:], line + "00000000000000", line + " 10000000000000",
		} {
			expectUnparsed(t, ahead+wrong+"\n"+behind, n+1, api.ErrSyntax)
			expectUnparsed(t, ahead+wrong+"\n", n+1, api.ErrSyntax)
			expectUnparsed(t, ahead+wrong+"\n"+behind+"x", n+1, api.ErrSyntax)
		}
		// A pulse may have any number of numbers, other lines have just so many.
		if n != 5 {
			expectUnparsed(t, ahead+line+" 1\n"+behind, n+1, api.ErrSyntax)
			expectUnparsed(t, ahead+line[:strings.LastIndex(line, " ")]+"\n"+behind, n+1, api.ErrSyntax)
		}
	}
}

func TestParseAsksForTheOrderOfLines(t *testing.T) {
	const times, out, back = "times 0 1\n", "out 1 2 3 4\n", "back 1 2 3 4\n"
	for _, x := range []struct {
		s    string
		line int
	}{
		{"", 1}, {"\n", 1}, {text + "\n", 7}, {"\n" + text, 1}, {text + text, 7},
		{times, 2}, {times + back, 2}, {out, 1}, {times + times, 2}, {times + out + out, 3}, {times + out + "element 1 2\n", 3},
		{head, 4}, {head + back, 4}, {head + "pore 0 400 10\n", 4},
		{head + "element 0 -300\n", 5}, {head + "element 0 -300\npore 0 400 10\n", 5},
		{head + "element 0 -300\npulse\n", 5}, {head + "pulse\n", 4}, {head + "pulse \n", 4}, {head + "element\npulse 1\n", 4},
		{head + "pulse 1\nelement 0 -300\n", 5}, {head + "pulse 1\npulse 1\n", 5},
		{text + "pulse 1\n", 7}, {text + "element 0 -300\n", 7}, {text + "pore 1 2 3", 7}, {text + "x", 7}, {text + " \n", 7},
	} {
		expectUnparsed(t, x.s, x.line, api.ErrSyntax)
	}
	for _, s := range wrongFlaws() {
		expectUnparsed(t, text+s+"\n", 7, api.ErrSyntax)
		expectUnparsed(t, text+s+"\npore 0 400\n", 7, api.ErrSyntax)
	}
}

func TestParseRefusesWrongSpecimens(t *testing.T) {
	const element = "element 0 -300\n"
	for s, want := range map[string]api.Errno{
		head + "pulse 1\n": api.ErrShape,
		head + strings.Repeat(element, 17) + "pulse 1\n":                        api.ErrLarge,
		head + "element 0 0\npulse 1\n":                                         api.ErrKind,
		head + element + "pulse 101\n":                                          api.ErrRange,
		head + element + "pulse" + strings.Repeat(" 1", 17) + "\n":              api.ErrLarge,
		text + "pore 0 1000 10\n":                                               api.ErrBreak,
		text + "plane 0 400 0 400 1 1 1\n":                                      api.ErrZero,
		text + strings.Repeat("pore 0 400 10\n", 10):                            api.ErrLarge,
		strings.Replace(text, "times 3900000", "times -1", 1):                   api.ErrRange,
		strings.Replace(text, "times 3900000", "times 9999999999999", 1):        api.ErrRange,
		strings.Replace(text, "back 2500 5000 0 1000", "back 1000 1000 0 9", 1): api.ErrUnit,
	} {
		expectUnparsed(t, s, 0, want)
		// A line that is wrong is told ahead of that.
		expectUnparsed(t, s+"x\n", strings.Count(s, "\n")+1, api.ErrSyntax)
	}
}

func TestParseRefusesLongTexts(t *testing.T) {
	const flaw = "pore 0 400 10\n"
	long := text + strings.Repeat(flaw, 60000/len(flaw)+1)
	lines := strings.Count(long[:60000], "\n")
	expectUnparsed(t, long[:60001], 0, api.ErrLarge)
	expectUnparsed(t, strings.Repeat("x", 60001), 0, api.ErrLarge)
	expectUnparsed(t, long[:60000], lines+1, api.ErrSyntax)
	expectUnparsed(t, strings.Repeat("\n", 60000), 1, api.ErrSyntax)
	expectUnparsed(t, text+strings.Repeat(flaw, 4000), 0, api.ErrLarge)
	expectUnparsed(t, head+"pulse"+strings.Repeat(" 1", 29000)+"\n", 0, api.ErrShape)
}

// P4.10, of texts

func TestParseUndoesPrint(t *testing.T) {
	var n numbers = 10
	for range 200 {
		s := n.specimen()
		expectParsed(t, must(bench.Print(s)), s)
		for _, f := range s.Flaws {
			expectAlike(t, "ParseFlaw", must(bench.ParseFlaw(bench.FormatFlaw(f))), f)
		}
	}
}
