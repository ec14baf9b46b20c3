package cover

import (
	"strconv"
	"strings"

	"couplant/api"
	"couplant/check"
	"couplant/text"
)

// maxDigits is how many digits a number of a text may have.
const maxDigits = 9

// The words of the language of joints.
const (
	jointWord = "joint"
	thickWord = "thick"
	zoneWord  = "zone"
	faceWord  = "face"
)

// setupForm returns the form of the text of a set-up.
func setupForm(s *api.CoverSetup) text.Form {
	return text.Form{Name: &s.Name, Digits: maxDigits, Numbers: []*int{
		&s.At, &s.Side, &s.Legs,
		&s.Least.Num, &s.Least.Den,
		&s.Most.Num, &s.Most.Den,
		&s.Tilt.Num, &s.Tilt.Den,
	}}
}

// FormatSetup returns the text of a set-up, right or not.
func FormatSetup(s api.CoverSetup) string {
	return setupForm(&s).Write()
}

// ParseSetup returns the set-up with a text.
func ParseSetup(s string) (api.CoverSetup, api.Errno) {
	return text.Parse(s, setupForm, CheckSetup)
}

// slot is the place of a word in a line: how the word is written, and how one is
// read.
type slot struct {
	write func() string
	read  func(word string) api.Errno
}

// same returns the slot of a word that is always the same, nameAt and numberAt
// those of a name and of a number that are kept somewhere.
func same(word string) slot {
	return slot{
		func() string { return word },
		func(s string) api.Errno { return check.Unless(s == word, api.ErrSyntax) },
	}
}

func nameAt(name *string) slot {
	return slot{
		func() string { return *name },
		func(s string) api.Errno {
			*name = s
			return check.Name(s)
		},
	}
}

func numberAt(number *int) slot {
	return slot{
		func() string { return strconv.Itoa(*number) },
		func(s string) api.Errno {
			n, isNumber := text.Number(s, maxDigits)
			*number = n
			return check.Unless(isNumber, api.ErrSyntax)
		},
	}
}

// form is the form of a line of a joint: a slot for each of its words.
type form []slot

func formOf(words ...slot) form { return words }

func jointForm(j *api.CoverJoint) form {
	return formOf(
		same(jointWord), nameAt(&j.Name),
		same(thickWord), numberAt(&j.Thick),
		same(zoneWord), numberAt(&j.Zone),
	)
}

func faceForm(f *api.CoverFace) form {
	return formOf(
		same(faceWord), nameAt(&f.Name),
		numberAt(&f.From.X), numberAt(&f.From.Z),
		numberAt(&f.To.X), numberAt(&f.To.Z),
	)
}

// write returns the line, with its line feed.
func (f form) write() string {
	var words []string
	for _, s := range f {
		words = append(words, s.write())
	}
	return strings.Join(words, " ") + "\n"
}

// fault is an error of a line, at one of its words, or behind the last one.
type fault struct {
	word int
	e    api.Errno
}

// firstFault returns the first of several faults that is an error.
func firstFault(l ...fault) fault {
	for _, f := range l {
		if f.e != api.OK {
			return f
		}
	}
	return fault{}
}

// read reads the words of a line.
func (f form) read(words []text.Word) fault {
	for n, s := range f {
		if n == len(words) {
			return fault{n, api.ErrMissing}
		}
		if e := s.read(words[n].Text); e != api.OK {
			return fault{n, e}
		}
	}
	return fault{len(f), check.Unless(len(words) == len(f), api.ErrSyntax)}
}

// readJoint reads the line of a joint, readFace that of one more face of it.
func readJoint(j *api.CoverJoint, words []text.Word) fault {
	if wrong := jointForm(j).read(words); wrong.e != api.OK {
		return wrong
	}
	return firstFault(
		fault{3, thickError(j.Thick)},
		fault{5, sizeError(j.Zone)},
	)
}

func readFace(j *api.CoverJoint, words []text.Word) fault {
	var f api.CoverFace
	if wrong := faceForm(&f).read(words); wrong.e != api.OK {
		return wrong
	}
	before := len(j.Faces)
	j.Faces = append(j.Faces, f)
	places := placeErrors(f, j.Thick)
	return firstFault(
		fault{0, check.Unless(before < api.MaxCoverFaces, api.ErrLarge)},
		fault{1, check.Fresh(j.Faces, before, faceName)},
		fault{2, places[0]},
		fault{3, places[1]},
		fault{4, places[2]},
		fault{5, places[3]},
		fault{2, lengthError(f)},
	)
}

// Print returns the text of a joint.
func Print(j api.CoverJoint) (string, api.Errno) {
	if e := jointError(j); e != api.OK {
		return "", e
	}
	t := jointForm(&j).write()
	for _, f := range j.Faces {
		t += faceForm(&f).write()
	}
	return t, api.OK
}

// Parse returns the joint with a text; or its first error, and where this is.
func Parse(t string) (api.CoverJoint, api.TextMark, api.Errno) {
	if len(t) > api.MaxText {
		return api.CoverJoint{}, api.TextMark{}, api.ErrLarge
	}
	lines, count := text.WordLines(t)
	if len(lines) == 0 {
		return api.CoverJoint{}, api.TextMark{Line: count + 1, Column: 1}, api.ErrMissing
	}
	var j api.CoverJoint
	read := readJoint
	for _, line := range lines {
		if wrong := read(&j, line.Words); wrong.e != api.OK {
			return api.CoverJoint{}, line.MarkOf(wrong.word), wrong.e
		}
		read = readFace
	}
	return j, api.TextMark{}, api.OK
}
