package cover_test

import (
	"fmt"
	"regexp"
	"slices"
	"strconv"
	"strings"
	"testing"

	"couplant/api"
	"couplant/cover"
)

// P7.6, of set-ups

func TestFormatSetup(t *testing.T) {
	for want, s := range map[string]api.CoverSetup{
		"a -1000 1 1 0 1 3 1 1 1": direct(),
		"b 0 1 2 0 1 3 1 3 1":     skip(3),
		// It is not asked whether it is right.
		" 0 0 0 0 0 0 0 0 0":        {},
		"a b\n 1 2 3 4 -5 6 7 -8 9": {Name: "a b\n", At: 1, Side: 2, Legs: 3, Least: frac(4, -5), Most: frac(6, 7), Tilt: frac(-8, 9)},
		"\xff 9223372036854775807 -9223372036854775808 0 0 0 0 0 0 0": {Name: "\xff", At: huge, Side: -huge - 1},
	} {
		expectAlike(t, "FormatSetup", cover.FormatSetup(s), want)
	}
}

func TestParseSetup(t *testing.T) {
	for s, want := range map[string]api.CoverSetup{
		"a -1000 1 1 0 1 3 1 1 1": direct(),
		"b 0 1 2 0 1 3 1 3 1":     skip(3),
		"Z9-9 20000 -1 2 1 100 99 100 100 1": {
			Name: "Z9-9", At: 20000, Side: -1, Legs: 2, Least: frac(1, 100), Most: frac(99, 100), Tilt: frac(100),
		},
	} {
		expectAlike(t, "ParseSetup", must(cover.ParseSetup(s)), want)
	}
}

func TestWhatIsNoSetup(t *testing.T) {
	for _, s := range []string{
		"", " ", "a", "a ", "a -1000 1 1 0 1 3 1 1", "a -1000 1 1 0 1 3 1 1 1 1", "a -1000 1 1 0 1 3 1 1 1 ", " a -1000 1 1 0 1 3 1 1 1",
		"a  -1000 1 1 0 1 3 1 1 1", "a -1000 1 1 0  1 3 1 1 1", "a\t-1000 1 1 0 1 3 1 1 1", "a -1000\t1 1 0 1 3 1 1 1",
		"a -1000 1 1 0 1 3 1 1 1\n", "\na -1000 1 1 0 1 3 1 1 1", "a\n -1000 1 1 0 1 3 1 1 1", "a\n-1000 1 1 0 1 3 1 1 1", "a -1000 1 1 0 1 3 1 1\n1",
		"-1000 1 1 0 1 3 1 1 1", "a b -1000 1 1 0 1 3 1 1 1", "a x 1 1 0 1 3 1 1 1", "a -1000 1 1 0 1 3 1 1 x", "a -1000 1 1 0 1/3 1 1 1 1",
		"a -01000 1 1 0 1 3 1 1 1", "a +1000 1 1 0 1 3 1 1 1", "a -0 1 1 0 1 3 1 1 1", "a 00 1 1 0 1 3 1 1 1", "a - 1 1 0 1 3 1 1 1", "a 1.0 1 1 0 1 3 1 1 1",
		"a 1000000000 1 1 0 1 3 1 1 1", "a -1000000000 1 1 0 1 3 1 1 1", "a 0 1 1 0 1 3 1 1 9223372036854775808", "a 0 1 1 0 1 3 1 1 \u0661",
		// What is no text is told ahead of a set-up that is wrong.
		" 0 0 0 0 0 0 0 0", "0 99999 0 0 0 0 0 0 0 01",
		strings.Repeat("1 ", 100000), strings.Repeat("a", 100000),
	} {
		x, e := cover.ParseSetup(s)
		refused(t, fmt.Sprintf("ParseSetup of %.100q", s), x, e, api.ErrSyntax)
	}
	for s, want := range map[string]api.Errno{
		// The name is any bytes but blanks and line feeds, also none.
		" -1000 1 1 0 1 3 1 1 1":                            api.ErrName,
		"\t -1000 1 1 0 1 3 1 1 1":                          api.ErrName,
		"a\tb\r -1000 1 1 0 1 3 1 1 1":                      api.ErrName,
		"\xff\x00 -1000 1 1 0 1 3 1 1 1":                    api.ErrName,
		"-1000 -1000 1 1 0 1 3 1 1 1":                       api.ErrName,
		strings.Repeat("a", 100000) + " 0 1 1 0 1 3 1 1 1":  api.ErrName,
		"a 999999999 1 1 0 1 3 1 1 1":                       api.ErrRange,
		"a -999999999 999999999 -999999999 0 1 3 1 1 1":     api.ErrRange,
		"a -1000 999999999 1 0 1 3 1 1 1":                   api.ErrKind,
		"a -1000 1 -999999999 0 1 3 1 1 1":                  api.ErrKind,
		"a -1000 1 1 0 0 3 1 1 1":                           api.ErrForm,
		"a -1000 1 1 0 1 999999999 999999999 1 1":           api.ErrForm,
		"a -1000 1 1 0 1 3 1 999999999 1":                   api.ErrRange,
		"a -1000 1 1 4 1 3 1 1 1":                           api.ErrOrder,
		"a -1000 1 1 -999999999 999999998 3 1 1 1":          api.ErrRange,
		" 0 0 0 0 0 0 0 0 0":                                api.ErrName,
		"abcdefghijklm 999999999 0 0 0 0 0 0 0 -999999999":  api.ErrName,
		"abcdefghijkl -20001 0 0 0 0 0 0 0 -999999999":      api.ErrRange,
		"abcdefghijkl -20000 -1 0 0 0 0 0 0 -999999999":     api.ErrKind,
		"abcdefghijkl -20000 -1 2 0 1 100 1 100 -999999999": api.ErrForm,
	} {
		x, e := cover.ParseSetup(s)
		refused(t, fmt.Sprintf("ParseSetup of %.100q", s), x, e, want)
	}
}

// P7.11, of set-ups

func TestParseSetupUndoesFormatSetup(t *testing.T) {
	var n numbers = 14
	for range 2000 {
		s := n.setup(20000, 100)
		s.Name = strings.Repeat("Ab", n.from(1, 6)) + []string{"", "-", "9"}[n.from(0, 2)]
		s.Name = s.Name[:min(12, len(s.Name))]
		expectAlike(t, "ParseSetup", must(cover.ParseSetup(cover.FormatSetup(s))), s)
	}
}

// P7.6, of joints

// textOf returns the text of a joint, by definition.
func textOf(j api.CoverJoint) string {
	t := fmt.Sprintf("joint %s thick %d zone %d\n", j.Name, j.Thick, j.Zone)
	for _, f := range j.Faces {
		t += fmt.Sprintf("face %s %d %d %d %d\n", f.Name, f.From.X, f.From.Z, f.To.X, f.To.Z)
	}
	return t
}

func TestPrint(t *testing.T) {
	expectAlike(t, "Print", must(cover.Print(slant())), "joint v thick 1000 zone 0\nface f 0 1000 1000 0\n")
	expectAlike(t, "Print without faces", must(cover.Print(api.CoverJoint{Name: "v", Thick: 1, Zone: 20000})), "joint v thick 1 zone 20000\n")
	expectAlike(t, "Print of a bevelled one", must(cover.Print(must(cover.Bevelled(vee())))),
		"joint w thick 1000 zone 7\nface l-land -100 1000 -100 800\nface l-bevel -100 800 -500 0\nface r-land 100 1000 100 800\nface r-bevel 100 800 500 0\n")
	for want, j := range wrongJoints() {
		s, e := cover.Print(j)
		refused(t, "Print", s, e, want)
	}
}

func expectParsed(t *testing.T, s string, want api.CoverJoint) {
	t.Helper()
	j, m, e := cover.Parse(s)
	expect(t, fmt.Sprintf("Parse of %.200q", s), j, e, want, api.OK)
	expectAlike(t, "Parse's mark", m, api.TextMark{})
}

func TestParse(t *testing.T) {
	bare := slant()
	bare.Faces = nil
	expectParsed(t, "joint v thick 1000 zone 0\n", bare)
	expectParsed(t, "joint v thick 1000 zone 0", bare)
	for _, s := range []string{
		"joint v thick 1000 zone 0\nface f 0 1000 1000 0\n",
		"joint v thick 1000 zone 0\nface f 0 1000 1000 0",
		"\n \n\t\n \tjoint\tv  thick \t1000 zone 0 \n\n  face f 0\t1000 1000 0\t\n \n",
		"\njoint v thick 1000 zone 0\n\n\nface f 0 1000 1000 0\n\n ",
	} {
		expectParsed(t, s, slant())
	}
	// The words of the form may be names.
	expectParsed(t, "joint joint thick 20000 zone 20000\nface face -20000 0 20000 20000\nface zone 0 20000 -20000 0",
		api.CoverJoint{Name: "joint", Thick: 20000, Zone: 20000, Faces: []api.CoverFace{
			{Name: "face", From: spot(-20000, 0), To: spot(20000, 20000)}, {Name: "zone", From: spot(0, 20000), To: spot(-20000, 0)},
		}})
}

func TestParseOfNoJoint(t *testing.T) {
	for s, line := range map[string]int{
		"": 1, "\n": 2, " ": 2, "\t": 2, " \n": 2, "\n\n": 3, "\n ": 3, " \n\t\n \n": 4, " \n\t\n \n\t": 5, strings.Repeat("\n", 60000): 60001,
	} {
		expectMark(t, s, line, 1, api.ErrMissing)
	}
}

func TestParseTellsTheWrongWord(t *testing.T) {
	const joint, face = "joint v thick 1000 zone 5\n", "face f 0 1000 1000 0\n"
	for _, x := range []struct {
		s            string
		line, column int
		want         api.Errno
	}{
		// The first word.
		{"joints v thick 1000 zone 5\n", 1, 1, api.ErrSyntax},
		{" Joint v", 1, 2, api.ErrSyntax},
		{"\n\n\tface f 0 1000 1000 0", 3, 2, api.ErrSyntax},
		{"joint\rv", 1, 1, api.ErrSyntax},
		{joint + joint, 2, 1, api.ErrSyntax},
		{joint + face + " x", 3, 2, api.ErrSyntax},
		{joint + "\n\t\tfaces", 3, 3, api.ErrSyntax},
		// Words that are missing.
		{"joint", 1, 6, api.ErrMissing},
		{"  joint \t \n", 1, 8, api.ErrMissing},
		{"joint v\n", 1, 8, api.ErrMissing},
		{"joint v thick\n", 1, 14, api.ErrMissing},
		{"joint v thick 1000", 1, 19, api.ErrMissing},
		{"joint v  thick 1000 zone  \n" + face, 1, 25, api.ErrMissing},
		{joint + "face", 2, 5, api.ErrMissing},
		{joint + "face f", 2, 7, api.ErrMissing},
		{joint + "face f 0", 2, 9, api.ErrMissing},
		{joint + "face f 0 1000", 2, 14, api.ErrMissing},
		{joint + "\n" + "face f 0 1000 1000\t\n" + face, 3, 19, api.ErrMissing},
		// Names.
		{"joint 1", 1, 7, api.ErrName},
		{"joint v_ thick", 1, 7, api.ErrName},
		{"joint abcdefghijklm thick 0 zone 0 x", 1, 7, api.ErrName},
		{"joint \u00e9 thick", 1, 7, api.ErrName},
		{joint + "face  -f", 2, 7, api.ErrName},
		// Words of the form, and numbers.
		{"joint v Thick 1000", 1, 9, api.ErrSyntax},
		{"joint v zone 1000", 1, 9, api.ErrSyntax},
		{"joint v thick x", 1, 15, api.ErrSyntax},
		{"joint v thick 01", 1, 15, api.ErrSyntax},
		{"joint v thick +1", 1, 15, api.ErrSyntax},
		{"joint v thick 1000000000 zone 0", 1, 15, api.ErrSyntax},
		{"joint v thick 1000 thick 5", 1, 20, api.ErrSyntax},
		{"joint v thick 1000 zone -0", 1, 25, api.ErrSyntax},
		{"joint v thick 1000 zone -1000000000", 1, 25, api.ErrSyntax},
		{joint + "face f x 1000 1000 0", 2, 8, api.ErrSyntax},
		{joint + "face f 0 00 1000 0", 2, 10, api.ErrSyntax},
		{joint + "face f 0 1000 1e3 0", 2, 15, api.ErrSyntax},
		{joint + "face f 0 1000 1000 0\r\n", 2, 20, api.ErrSyntax},
		// One word more.
		{"joint v thick 1000 zone 5 6", 1, 27, api.ErrSyntax},
		{"joint v thick 0 zone 5  6", 1, 25, api.ErrSyntax},
		{joint + "face f 0 1000 1000 0 0 0", 2, 22, api.ErrSyntax},
		{joint + face + face[:20] + "\tx", 3, 22, api.ErrSyntax},
		// What the line says.
		{"joint v thick 0 zone 5", 1, 15, api.ErrRange},
		{"joint v thick 20001 zone -5", 1, 15, api.ErrRange},
		{"joint v thick -999999999 zone 5", 1, 15, api.ErrRange},
		{"joint v thick 1000 zone -1", 1, 25, api.ErrRange},
		{"joint v thick 1000 zone 20001", 1, 25, api.ErrRange},
		{"joint v thick 1000 zone 999999999\nx", 1, 25, api.ErrRange},
		{joint + face + "face f 0 0 0 0", 3, 6, api.ErrExists},
		{joint + face + "face g 0 1 0 0\n\nface g 0 1001 1001 0", 5, 6, api.ErrExists},
		{joint + "face f 20001 1000 1000 0", 2, 8, api.ErrRange},
		{joint + "face f -20001 -1 20001 -1", 2, 8, api.ErrRange},
		{joint + "face f 0 1001 1000 0", 2, 10, api.ErrRange},
		{joint + "face f 0 -1 20001 -1", 2, 10, api.ErrRange},
		{joint + "face f 0 0 999999999 -1", 2, 12, api.ErrRange},
		{joint + "face f 0 0 -20001 0", 2, 12, api.ErrRange},
		{joint + "face f 0 0 0 1001", 2, 14, api.ErrRange},
		{joint + "face f 0 1000 0 -1", 2, 17, api.ErrRange},
		{joint + "face f 5 1001 5 1001", 2, 10, api.ErrRange},
		{joint + "face f 5 1000 5 1000", 2, 8, api.ErrZero},
		{joint + "face  f  0  0  0  0", 2, 10, api.ErrZero},
		// The first line with an error is told, and of this its first error.
		{"joint v thick 0 zone 5\nx", 1, 15, api.ErrRange},
		{"joint v thick 0 zone x", 1, 22, api.ErrSyntax},
		{"joint v thick 0 zone", 1, 21, api.ErrMissing},
		{joint + "face f 0 9999 0 0\nface", 2, 10, api.ErrRange},
		{joint + "face f 0 9999 0 x\n", 2, 17, api.ErrSyntax},
	} {
		expectMark(t, x.s, x.line, x.column, x.want)
	}
}

func TestParseOfManyFaces(t *testing.T) {
	var n numbers = 15
	j := n.joint(12, 1000)
	s := textOf(j)
	expectParsed(t, s, j)
	for more, want := range map[string]api.Errno{
		"  face g 0 0 0 1\n": api.ErrLarge, "  face f3 -1 -1 -1 -1\n": api.ErrLarge,
	} {
		expectMark(t, s+"\n"+more, 15, 3, want)
	}
	expectMark(t, s+"face g 0 0 0\n", 14, 13, api.ErrMissing)
	expectMark(t, s+"face g 0 0 0 x\n", 14, 14, api.ErrSyntax)
}

func TestParseOfLongTexts(t *testing.T) {
	s := textOf(slant())
	long := s + strings.Repeat(" ", 60000-len(s))
	expectParsed(t, long, slant())
	expectMark(t, long+" ", 0, 0, api.ErrLarge)
	expectMark(t, strings.Repeat("x", 60001), 0, 0, api.ErrLarge)
	expectMark(t, strings.Repeat("x", 60000), 1, 1, api.ErrSyntax)
	expectMark(t, strings.Repeat(" ", 59999)+"x", 1, 60000, api.ErrSyntax)
	expectMark(t, "joint "+strings.Repeat("v ", 29000), 1, 9, api.ErrSyntax)
	expectMark(t, "joint"+strings.Repeat("\n", 59995), 1, 6, api.ErrMissing)
}

// reading is how far a text is read, by definition.
type reading struct {
	joint  api.CoverJoint
	line   int
	words  [][]int
	text   string
	mark   api.TextMark
	wrong  api.Errno
	number []int
}

var (
	isWord   = regexp.MustCompile(`[^ \t]+`)
	isName   = regexp.MustCompile(`^[A-Za-z][-A-Za-z0-9]{0,11}$`)
	isNumber = regexp.MustCompile(`^(0|-?[1-9][0-9]{0,8})$`)
)

// at tells an error at a word, unless there is one before.
func (r *reading) at(word int, isRight bool, e api.Errno) {
	if r.wrong != api.OK || isRight {
		return
	}
	column := r.words[len(r.words)-1][1] + 1
	if word < len(r.words) {
		column = r.words[word][0] + 1
	}
	r.mark, r.wrong = api.TextMark{Line: r.line, Column: column}, e
}

// word returns a word, told to be missing if there is none.
func (r *reading) word(n int) string {
	if n >= len(r.words) {
		r.at(n, false, api.ErrMissing)
		return ""
	}
	return r.text[r.words[n][0]:r.words[n][1]]
}

// read reads a line of a form: "name" and "number" stand for these.
func (r *reading) read(form ...string) {
	r.number = nil
	for n, part := range form {
		word := r.word(n)
		switch part {
		case "name":
			r.at(n, isName.MatchString(word), api.ErrName)
		case "number":
			r.at(n, isNumber.MatchString(word), api.ErrSyntax)
			number, _ := strconv.Atoi(word)
			r.number = append(r.number, number)
		default:
			r.at(n, word == part, api.ErrSyntax)
		}
	}
	r.at(len(form), len(r.words) <= len(form), api.ErrSyntax)
}

// readText returns what Parse returns, by definition.
func readText(s string) (api.CoverJoint, api.TextMark, api.Errno) {
	lines := strings.Split(s, "\n")
	if lines[len(lines)-1] == "" {
		lines = lines[:len(lines)-1]
	}
	var r reading
	hasJoint := false
	for n, line := range lines {
		r.line, r.text, r.words = n+1, line, isWord.FindAllStringIndex(line, -1)
		if len(r.words) == 0 || r.wrong != api.OK {
			continue
		}
		if !hasJoint {
			r.readJoint()
		} else {
			r.readFace()
		}
		hasJoint = true
	}
	if r.wrong != api.OK {
		return api.CoverJoint{}, r.mark, r.wrong
	}
	if !hasJoint {
		return api.CoverJoint{}, api.TextMark{Line: len(lines) + 1, Column: 1}, api.ErrMissing
	}
	return r.joint, api.TextMark{}, api.OK
}

func (r *reading) readJoint() {
	r.read("joint", "name", "thick", "number", "zone", "number")
	r.at(3, r.wrong != api.OK || r.number[0] >= 1 && r.number[0] <= 20000, api.ErrRange)
	r.at(5, r.wrong != api.OK || r.number[1] >= 0 && r.number[1] <= 20000, api.ErrRange)
	if r.wrong == api.OK {
		r.joint = api.CoverJoint{Name: r.word(1), Thick: r.number[0], Zone: r.number[1]}
	}
}

func (r *reading) readFace() {
	r.read("face", "name", "number", "number", "number", "number")
	if r.wrong != api.OK {
		return
	}
	f := api.CoverFace{Name: r.word(1), From: spot(r.number[0], r.number[1]), To: spot(r.number[2], r.number[3])}
	r.at(0, len(r.joint.Faces) < 12, api.ErrLarge)
	for _, other := range r.joint.Faces {
		r.at(1, other.Name != f.Name, api.ErrExists)
	}
	for n, number := range r.number {
		least, most := -20000, 20000
		if n%2 == 1 {
			least, most = 0, r.joint.Thick
		}
		r.at(2+n, least <= number && number <= most, api.ErrRange)
	}
	r.at(2, f.From != f.To, api.ErrZero)
	r.joint.Faces = append(r.joint.Faces, f)
}

// spoiled returns a text with some of its words, and what stands between them,
// changed.
func (n *numbers) spoiled(s string) string {
	pieces := regexp.MustCompile(`[^ \t\n]+|[ \t]+|\n`).FindAllString(s, -1)
	other := []string{
		"joint", "face", "thick", "zone", "x", "f0", "f1", "0", "-1", "1", "-0", "007", "20000", "20001", "1000000000", "é", "1-", "joint-of-many",
		"\n", "\n\n", " ", "\t", " \t ", "\r", "", "",
	}
	for range n.from(0, 3) {
		if len(pieces) == 0 {
			break
		}
		k := n.from(0, len(pieces)-1)
		j := n.from(0, len(pieces)-1)
		switch n.from(0, 4) {
		case 0:
			pieces = slices.Delete(pieces, k, k+1)
		case 1:
			pieces = slices.Insert(pieces, k, other[n.from(0, len(other)-1)])
		case 2:
			pieces[k] = other[n.from(0, len(other)-1)]
		case 3:
			pieces[k] = pieces[j]
		case 4:
			pieces[k], pieces[j] = pieces[j], pieces[k]
		}
	}
	return strings.Join(pieces, "")
}

func TestParseIsAsDefined(t *testing.T) {
	var n numbers = 16
	counts := map[api.Errno]int{}
	for range 20000 {
		spoiled := n.joint(n.from(0, 4), 1000)
		for k := range spoiled.Faces {
			f := &spoiled.Faces[k]
			if n.isOnce(20) {
				f.Name = spoiled.Faces[0].Name
			}
			if n.isOnce(20) {
				f.To = f.From
			}
		}
		s := n.spoiled(textOf(spoiled))
		j, m, e := cover.Parse(s)
		want, at, f := readText(s)
		expect(t, fmt.Sprintf("Parse of %q", s), j, e, want, f)
		expectAlike(t, fmt.Sprintf("the mark of %q", s), m, at)
		counts[e]++
	}
	for _, e := range []api.Errno{api.OK, api.ErrSyntax, api.ErrMissing, api.ErrName, api.ErrRange, api.ErrExists, api.ErrZero} {
		if counts[e] < 50 {
			t.Errorf("%v", counts)
		}
	}
}

// P7.11, of joints

func TestParseUndoesPrint(t *testing.T) {
	var n numbers = 17
	for range 500 {
		j := n.joint(n.from(0, 12), []int{5, 1000, 20000}[n.from(0, 2)])
		s := must(cover.Print(j))
		expectAlike(t, "Print", s, textOf(j))
		expectParsed(t, s, j)
	}
}
