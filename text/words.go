package text

import (
	"strings"

	"couplant/api"
)

// Word is a word of a line, and the column of its first byte.
type Word struct {
	Text   string
	Column int
}

// Line is a line that has words, and its number.
type Line struct {
	Number int
	Words  []Word
}

// WordLines returns the lines of a text that have words, and how many lines it
// has in all. They end with a line feed, or with the text.
func WordLines(s string) (lines []Line, count int) {
	for line := range strings.Lines(s) {
		count++
		if words := wordsOf(strings.TrimSuffix(line, "\n")); len(words) > 0 {
			lines = append(lines, Line{count, words})
		}
	}
	return lines, count
}

// wordsOf returns the words of a line: as many bytes as possible that are no
// blank and no tab.
func wordsOf(line string) []Word {
	var words []Word
	begin := 0
	for n := range len(line) + 1 {
		if n < len(line) && line[n] != ' ' && line[n] != '\t' {
			continue
		}
		if begin < n {
			words = append(words, Word{line[begin:n], begin + 1})
		}
		begin = n + 1
	}
	return words
}

// MarkOf returns where a word of the line is; where there is no such word, the
// line's end behind its last one.
func (l Line) MarkOf(word int) api.TextMark {
	if word < len(l.Words) {
		return api.TextMark{Line: l.Number, Column: l.Words[word].Column}
	}
	last := l.Words[len(l.Words)-1]
	return api.TextMark{Line: l.Number, Column: last.Column + len(last.Text)}
}
