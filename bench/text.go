package bench

import (
	"strings"

	"couplant/api"
	"couplant/check"
	"couplant/text"
)

// maxDigits is how many digits a number of a text may have.
const maxDigits = 13

// The words with which the lines of a specimen begin, but for its flaws.
const (
	timesWord   = "times"
	outWord     = "out"
	backWord    = "back"
	elementWord = "element"
	pulseWord   = "pulse"
)

// kindWords are the words of the kinds of flaws, by their numbers.
var kindWords = [...]string{api.BenchPore: "pore", api.BenchPlane: "plane"}

// form returns the form of a line of a specimen.
func form(word string, numbers ...*int) text.Form {
	return text.Form{Word: word, Digits: maxDigits, Numbers: numbers}
}

func timesForm(s *api.Sampling) text.Form {
	return form(timesWord, &s.First, &s.Step)
}

func modeForm(word string, m *api.RayMode) text.Form {
	return form(word, &m.Wedge, &m.Metal, &m.Skips, &m.Thick)
}

func elementForm(p *api.Spot) text.Form {
	return form(elementWord, &p.X, &p.Z)
}

func pulseForm(pulse []int) text.Form {
	return form(pulseWord, text.Places(pulse)...)
}

// flawForm returns the form of a flaw of a kind that there is.
func flawForm(f *api.BenchFlaw) text.Form {
	word := kindWords[f.Kind]
	if f.Kind == api.BenchPlane {
		return form(
			word, &f.From.X, &f.From.Z, &f.To.X, &f.To.Z,
			&f.Pieces, &f.Amplitude, &f.Tip,
		)
	}
	return form(word, &f.From.X, &f.From.Z, &f.Amplitude)
}

// FormatFlaw returns the text of a flaw, right or not.
func FormatFlaw(f api.BenchFlaw) string {
	if check.Item(f.Kind, len(kindWords)) != api.OK {
		return ""
	}
	return flawForm(&f).Write()
}

// ParseFlaw returns the flaw with a text.
func ParseFlaw(s string) (api.BenchFlaw, api.Errno) {
	f, isFlaw := flawOf(s)
	e := check.First(check.Unless(isFlaw, api.ErrSyntax), CheckFlaw(f))
	if e != api.OK {
		return api.BenchFlaw{}, e
	}
	return f, api.OK
}

func flawOf(s string) (f api.BenchFlaw, isFlaw bool) {
	for kind := range kindWords {
		f = api.BenchFlaw{Kind: kind}
		if flawForm(&f).Read(s) {
			return f, true
		}
	}
	return api.BenchFlaw{}, false
}

// Print returns the text of a specimen.
func Print(s api.BenchSpecimen) (string, api.Errno) {
	if e := specimenError(s); e != api.OK {
		return "", e
	}
	lines := []text.Form{
		timesForm(&s.Array.Times),
		modeForm(outWord, &s.Array.Out),
		modeForm(backWord, &s.Array.Back),
	}
	for _, p := range s.Array.Elements {
		lines = append(lines, elementForm(&p))
	}
	lines = append(lines, pulseForm(s.Pulse))
	for _, f := range s.Flaws {
		lines = append(lines, flawForm(&f))
	}
	return text.Print(lines), api.OK
}

// Parse returns the specimen with a text; or its error, and the number of the
// first line that has not its form.
func Parse(t string) (api.BenchSpecimen, int, api.Errno) {
	if len(t) > api.MaxText {
		return api.BenchSpecimen{}, 0, api.ErrLarge
	}
	s, wrong := specimenWith(t)
	if wrong > 0 {
		return api.BenchSpecimen{}, wrong, api.ErrSyntax
	}
	if e := specimenError(s); e != api.OK {
		return api.BenchSpecimen{}, 0, e
	}
	return s, 0, api.OK
}

// specimenWith returns the specimen with a text, right or not, and the number
// of the first line that has not its form, or 0.
func specimenWith(t string) (s api.BenchSpecimen, wrong int) {
	lines := text.LinesOf(t)
	lines.Take(timesForm(&s.Array.Times).Read)
	lines.Take(modeForm(outWord, &s.Array.Out).Read)
	lines.Take(modeForm(backWord, &s.Array.Back).Read)
	for lines.IsAt(elementWord) {
		var p api.Spot
		lines.Take(elementForm(&p).Read)
		s.Array.Elements = append(s.Array.Elements, p)
	}
	lines.Take(func(line string) bool {
		// A pulse without numbers is wrong, too.
		s.Pulse = make([]int, max(1, strings.Count(line, " ")))
		return pulseForm(s.Pulse).Read(line)
	})
	for !lines.IsEnd() {
		lines.Take(func(line string) bool {
			f, isFlaw := flawOf(line)
			s.Flaws = append(s.Flaws, f)
			return isFlaw
		})
	}
	return s, lines.Wrong()
}
