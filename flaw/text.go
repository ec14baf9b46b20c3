package flaw

import (
	"couplant/api"
	"couplant/text"
)

// maxDigits is how many digits a number of a text may have.
const maxDigits = 10

// markForm returns the form of the text of a mark.
func markForm(m *api.FlawMark) text.Form {
	return text.Form{Name: &m.Name, Digits: maxDigits, Numbers: []*int{
		&m.Along.Lo, &m.Along.Hi,
		&m.Depth.Lo, &m.Depth.Hi,
		&m.Level,
	}}
}

// FormatMark returns the text of a mark, right or not.
func FormatMark(m api.FlawMark) string {
	return markForm(&m).Write()
}

// ParseMark returns the mark with a text.
func ParseMark(s string) (api.FlawMark, api.Errno) {
	return text.Parse(s, markForm, markError)
}
