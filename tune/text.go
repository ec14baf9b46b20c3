package tune

import (
	"couplant/api"
	"couplant/text"
)

// maxDigits is how many digits a number of an event may have.
const maxDigits = 9

// eventForm returns the form of the text of an event, of its numbers.
func eventForm(numbers *[3]int) text.Form {
	return text.Form{Digits: maxDigits, Numbers: text.Places(numbers[:])}
}

// FormatEvent returns the text of an event.
func FormatEvent(x api.TuneEvent) string {
	return eventForm(&[3]int{x.Minute, x.Step, x.Warmth}).Write()
}

// ParseEvent returns the event with a text.
func ParseEvent(s string) (api.TuneEvent, api.Errno) {
	var numbers [3]int
	if !eventForm(&numbers).Read(s) {
		return api.TuneEvent{}, api.ErrSyntax
	}
	return api.TuneEvent{Minute: numbers[0], Step: numbers[1], Warmth: numbers[2]}, api.OK
}
