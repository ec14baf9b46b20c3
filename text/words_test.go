package text_test

import (
	"fmt"
	"testing"

	"couplant/api"
	"couplant/text"
)

func TestLinesHaveWords(t *testing.T) {
	for _, x := range []struct {
		s     string
		want  string
		count int
	}{
		{"", "[]", 0},
		{"\n", "[]", 1},
		{" ", "[]", 1},
		{" \n\t \n", "[]", 2},
		{"\n\n\n ", "[]", 4},
		{"a", "[{1 [{a 1}]}]", 1},
		{"a\n", "[{1 [{a 1}]}]", 1},
		{"a\n\n", "[{1 [{a 1}]}]", 2},
		{"ab c", "[{1 [{ab 1} {c 4}]}]", 1},
		{"\t ab\t\tc \n", "[{1 [{ab 3} {c 7}]}]", 1},
		{"\n a\n\t\nb  c", "[{2 [{a 2}]} {4 [{b 1} {c 4}]}]", 4},
		// Bytes count, not characters, and all but blanks and tabs are of words.
		{"\u00e9 \xff\r\v\f x", "[{1 [{\u00e9 1} {\xff\r\v\f 4} {x 9}]}]", 1},
		{"\u00a0\u2003", "[{1 [{\u00a0\u2003 1}]}]", 1},
		{"\x00", "[{1 [{\x00 1}]}]", 1},
	} {
		lines, count := text.WordLines(x.s)
		if fmt.Sprint(lines) != x.want || count != x.count {
			t.Errorf("%q: %q, %d lines; want %q, %d", x.s, fmt.Sprint(lines), count, x.want, x.count)
		}
	}
}

func TestMarksOfWords(t *testing.T) {
	lines, _ := text.WordLines("\n\tab  cde \t\nx")
	for n, column := range []int{2, 6, 9, 9} {
		if m := lines[0].MarkOf(n); m != (api.TextMark{Line: 2, Column: column}) {
			t.Errorf("the word %d: %v", n, m)
		}
	}
	for n, column := range []int{1, 2, 2} {
		if m := lines[1].MarkOf(n); m != (api.TextMark{Line: 3, Column: column}) {
			t.Errorf("the word %d of the last line: %v", n, m)
		}
	}
}
