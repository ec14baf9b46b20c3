package bench

import (
	"strconv"
	"strings"

	"couplant/api"
	"couplant/check"
	"couplant/text"
)

// maxDigits is how many digits a number of a text may have.
const maxDigits = 13

// The words with which the lines of a specimen begin, but for its flaws.
const (
	timesWord   = "times"
	outWord     = "out"
	backWord    = "back"
	elementWord = "element"
	pulseWord   = "pulse"
)

// kindWords are the words of the kinds of flaws, by their numbers.
var kindWords = [...]string{api.BenchPore: "pore", api.BenchPlane: "plane"}

// form is the form of a line: a word, and numbers behind it. These are written
// from where they are kept, and read to there.
type form struct {
	word    string
	numbers []*int
}

func timesForm(s *api.Sampling) form {
	return form{timesWord, []*int{&s.First, &s.Step}}
}

func modeForm(word string, m *api.RayMode) form {
	return form{word, []*int{&m.Wedge, &m.Metal, &m.Skips, &m.Thick}}
}

func elementForm(p *api.Spot) form {
	return form{elementWord, []*int{&p.X, &p.Z}}
}

func pulseForm(pulse []int) form {
	x := form{word: pulseWord}
	for k := range pulse {
		x.numbers = append(x.numbers, &pulse[k])
	}
	return x
}

// flawForm returns the form of a flaw of a kind that there is.
func flawForm(f *api.BenchFlaw) form {
	numbers := []*int{&f.From.X, &f.From.Z, &f.Amplitude}
	if f.Kind == api.BenchPlane {
		numbers = []*int{
			&f.From.X, &f.From.Z, &f.To.X, &f.To.Z,
			&f.Pieces, &f.Amplitude, &f.Tip,
		}
	}
	return form{kindWords[f.Kind], numbers}
}

// write returns the line, without its line feed.
func (x form) write() string {
	words := []string{x.word}
	for _, n := range x.numbers {
		words = append(words, strconv.Itoa(*n))
	}
	return strings.Join(words, " ")
}

// read sets the numbers to those of a line, and returns whether this has the
// form.
func (x form) read(line string) bool {
	words := strings.Split(line, " ")
	if words[0] != x.word || len(words[1:]) != len(x.numbers) {
		return false
	}
	for k, word := range words[1:] {
		n, isNumber := text.Number(word, maxDigits)
		if !isNumber {
			return false
		}
		*x.numbers[k] = n
	}
	return true
}

// FormatFlaw returns the text of a flaw, right or not.
func FormatFlaw(f api.BenchFlaw) string {
	if check.Item(f.Kind, len(kindWords)) != api.OK {
		return ""
	}
	return flawForm(&f).write()
}

// ParseFlaw returns the flaw with a text.
func ParseFlaw(s string) (api.BenchFlaw, api.Errno) {
	f, isFlaw := flawOf(s)
	e := check.First(check.Unless(isFlaw, api.ErrSyntax), CheckFlaw(f))
	if e != api.OK {
		return api.BenchFlaw{}, e
	}
	return f, api.OK
}

func flawOf(s string) (f api.BenchFlaw, isFlaw bool) {
	for kind := range kindWords {
		f = api.BenchFlaw{Kind: kind}
		if flawForm(&f).read(s) {
			return f, true
		}
	}
	return api.BenchFlaw{}, false
}

// Print returns the text of a specimen.
func Print(s api.BenchSpecimen) (string, api.Errno) {
	if e := specimenError(s); e != api.OK {
		return "", e
	}
	forms := []form{
		timesForm(&s.Array.Times),
		modeForm(outWord, &s.Array.Out),
		modeForm(backWord, &s.Array.Back),
	}
	for _, p := range s.Array.Elements {
		forms = append(forms, elementForm(&p))
	}
	forms = append(forms, pulseForm(s.Pulse))
	for _, f := range s.Flaws {
		forms = append(forms, flawForm(&f))
	}
	var b strings.Builder
	for _, x := range forms {
		b.WriteString(x.write())
		b.WriteString("\n")
	}
	return b.String(), api.OK
}

// Parse returns the specimen with a text; or its error, and the number of the
// first line that has not its form.
func Parse(t string) (api.BenchSpecimen, int, api.Errno) {
	if len(t) > api.MaxText {
		return api.BenchSpecimen{}, 0, api.ErrLarge
	}
	s, wrong := specimenWith(t)
	if wrong > 0 {
		return api.BenchSpecimen{}, wrong, api.ErrSyntax
	}
	if e := specimenError(s); e != api.OK {
		return api.BenchSpecimen{}, 0, e
	}
	return s, 0, api.OK
}

// specimenWith returns the specimen with a text, right or not, and the number
// of the first line that has not its form, or 0.
func specimenWith(t string) (s api.BenchSpecimen, wrong int) {
	r := reader{rest: t}
	r.take(timesForm(&s.Array.Times).read)
	r.take(modeForm(outWord, &s.Array.Out).read)
	r.take(modeForm(backWord, &s.Array.Back).read)
	for r.isAt(elementWord) {
		var p api.Spot
		r.take(elementForm(&p).read)
		s.Array.Elements = append(s.Array.Elements, p)
	}
	r.take(func(line string) bool {
		// A pulse without numbers is wrong, too.
		s.Pulse = make([]int, max(1, strings.Count(line, " ")))
		return pulseForm(s.Pulse).read(line)
	})
	for r.rest != "" {
		r.take(func(line string) bool {
			f, isFlaw := flawOf(line)
			s.Flaws = append(s.Flaws, f)
			return isFlaw
		})
	}
	return s, r.wrong
}

// reader takes the lines of a text one by one, up to the first one that is
// wrong.
type reader struct {
	rest  string
	taken int
	wrong int
}

// isAt returns whether the next line begins with a word.
func (r *reader) isAt(word string) bool {
	return strings.HasPrefix(r.rest, word+" ")
}

// take takes the next line, if it is there and can be read; otherwise it is the
// wrong one, and nothing is left to be taken.
func (r *reader) take(read func(line string) bool) {
	if r.wrong > 0 {
		return
	}
	line, rest, isLine := strings.Cut(r.rest, "\n")
	r.taken++
	if !isLine || !read(line) {
		r.wrong, rest = r.taken, ""
	}
	r.rest = rest
}
