// Package text is no layer: it holds what the layers share to read and write the
// lines of texts, and their numbers.
package text

import (
	"strconv"
	"strings"
)

// Number reads a number of at most so many digits. The library takes more forms
// than a text may have, but writes just the one that it may.
func Number(word string, digits int) (n int, isNumber bool) {
	n, err := strconv.Atoi(word)
	if err != nil || strconv.Itoa(n) != word || len(strings.TrimPrefix(word, "-")) > digits {
		return 0, false
	}
	return n, true
}
