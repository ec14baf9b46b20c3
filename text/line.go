package text

import (
	"strconv"
	"strings"

	"couplant/api"
)

// Form is the form of a line: a word, if it has one, a name, if it has one, and
// numbers of at most so many digits. Names and numbers are written from where
// they are kept, and read to there. A name is any bytes but blanks and line
// feeds, also none.
type Form struct {
	Word    string
	Name    *string
	Digits  int
	Numbers []*int
}

// Places returns where the numbers of a list are kept.
func Places(l []int) []*int {
	var places []*int
	for n := range l {
		places = append(places, &l[n])
	}
	return places
}

// Write returns the line, without its line feed.
func (f Form) Write() string {
	var words []string
	if f.Word != "" {
		words = append(words, f.Word)
	}
	if f.Name != nil {
		words = append(words, *f.Name)
	}
	for _, n := range f.Numbers {
		words = append(words, strconv.Itoa(*n))
	}
	return strings.Join(words, " ")
}

// Read sets the name and the numbers to those of a line, and returns whether
// this has the form.
func (f Form) Read(line string) bool {
	words := strings.Split(line, " ")
	if len(words) != f.count() {
		return false
	}
	if f.Word != "" {
		if words[0] != f.Word {
			return false
		}
		words = words[1:]
	}
	if f.Name != nil {
		if strings.Contains(words[0], "\n") {
			return false
		}
		*f.Name, words = words[0], words[1:]
	}
	for k, word := range words {
		n, isNumber := Number(word, f.Digits)
		if !isNumber {
			return false
		}
		*f.Numbers[k] = n
	}
	return true
}

// Parse returns what a line of some form tells, or its error; formOf tells the
// form of what is read, and wrong its error.
func Parse[T any](line string, formOf func(x *T) Form, wrong func(x T) api.Errno) (T, api.Errno) {
	var x, zero T
	if !formOf(&x).Read(line) {
		return zero, api.ErrSyntax
	}
	if e := wrong(x); e != api.OK {
		return zero, e
	}
	return x, api.OK
}

// count returns how many words the line has.
func (f Form) count() int {
	count := len(f.Numbers)
	if f.Word != "" {
		count++
	}
	if f.Name != nil {
		count++
	}
	return count
}

// Print returns the text of lines, each one with its line feed.
func Print(lines []Form) string {
	var b strings.Builder
	for _, f := range lines {
		b.WriteString(f.Write())
		b.WriteString("\n")
	}
	return b.String()
}

// Lines are those of a text, taken one by one, up to the first one that is
// wrong.
type Lines struct {
	rest  string
	taken int
	wrong int
}

// LinesOf returns the lines of a text.
func LinesOf(s string) *Lines {
	return &Lines{rest: s}
}

// IsEnd returns whether no line is left.
func (l *Lines) IsEnd() bool {
	return l.rest == ""
}

// IsAt returns whether the next line begins with a word.
func (l *Lines) IsAt(word string) bool {
	return strings.HasPrefix(l.rest, word+" ")
}

// Take takes the next line, if it is there and can be read; otherwise it is the
// wrong one, and nothing is left to be taken.
func (l *Lines) Take(read func(line string) bool) {
	if l.wrong > 0 {
		return
	}
	line, rest, isLine := strings.Cut(l.rest, "\n")
	l.taken++
	if !isLine || !read(line) {
		l.wrong, rest = l.taken, ""
	}
	l.rest = rest
}

// End has no line left: the next one, if there is one, is wrong.
func (l *Lines) End() {
	if !l.IsEnd() {
		l.Take(func(string) bool { return false })
	}
}

// Wrong returns the number of the wrong line, from 1 on, or 0.
func (l *Lines) Wrong() int {
	return l.wrong
}
