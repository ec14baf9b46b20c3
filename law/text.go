package law

import (
	"strconv"
	"strings"

	"couplant/api"
	"couplant/check"
	"couplant/text"
)

// maxDigits is how many digits a number of a text may have.
const maxDigits = 9

// FormatLaw returns the text of a law, right or not.
func FormatLaw(l api.DelayLaw) string {
	words := []string{strconv.Itoa(l.Clock)}
	for _, ticks := range l.Ticks {
		if ticks < 0 {
			words = append(words, "-")
		} else {
			words = append(words, strconv.Itoa(ticks))
		}
	}
	return strings.Join(words, " ")
}

// ParseLaw returns the law with a text.
func ParseLaw(s string) (api.DelayLaw, api.Errno) {
	l, isLaw := lawOfWords(strings.Split(s, " "))
	e := check.First(check.Unless(isLaw, api.ErrSyntax), lawError(l))
	if e != api.OK {
		return api.DelayLaw{}, e
	}
	return l, api.OK
}

func lawOfWords(words []string) (l api.DelayLaw, isLaw bool) {
	clock, isLaw := text.Number(words[0], maxDigits)
	l.Clock = clock
	for _, word := range words[1:] {
		ticks, isTicks := ticksOf(word)
		l.Ticks = append(l.Ticks, ticks)
		isLaw = isLaw && isTicks
	}
	return l, isLaw
}

func ticksOf(word string) (ticks int, isTicks bool) {
	if word == "-" {
		return silent, true
	}
	n, isNumber := text.Number(word, maxDigits)
	return n, isNumber && n >= 0
}
