package text_test

import (
	"fmt"
	"testing"

	"couplant/text"
)

// formOf returns the form of lines of some numbers of at most three digits.
func formOf(word string, numbers []int) text.Form {
	return text.Form{Word: word, Digits: 3, Numbers: text.Places(numbers)}
}

func TestFormsAreWritten(t *testing.T) {
	for _, x := range []struct {
		word    string
		numbers []int
		want    string
	}{
		{"step", []int{1, -20}, "step 1 -20"},
		{"step", nil, "step"},
		{"", []int{1, -20}, "1 -20"},
		{"", []int{7}, "7"},
		// How many digits there are is asked of lines that are read alone.
		{"step", []int{12345}, "step 12345"},
	} {
		if s := formOf(x.word, x.numbers).Write(); s != x.want {
			t.Errorf("%q; want %q", s, x.want)
		}
	}
	lines := []text.Form{formOf("step", []int{1, 2}), formOf("", []int{3})}
	if s := text.Print(lines); s != "step 1 2\n3\n" {
		t.Errorf("%q", s)
	}
	if s := text.Print(nil); s != "" {
		t.Errorf("%q", s)
	}
}

func TestFormsAreRead(t *testing.T) {
	for line, word := range map[string]string{"step 1 -20": "step", "1 -20": ""} {
		numbers := make([]int, 2)
		if !formOf(word, numbers).Read(line) || numbers[0] != 1 || numbers[1] != -20 {
			t.Errorf("%q: %v", line, numbers)
		}
	}
	if !formOf("step", nil).Read("step") {
		t.Error("a word alone is not read")
	}
}

func TestOtherFormsAreNotRead(t *testing.T) {
	for _, line := range []string{
		"", " ", "step", "step 1", "step 1 2 3", "step 1 2 ", " step 1 2", "step  1 2", "steps 1 2", "Step 1 2",
		"step 1 02", "step 1 1000", "step x 2", "step 1 2\n", "step\t1 2", "1 2", "1", "1 2 3", " 1 2",
	} {
		if formOf("step", make([]int, 2)).Read(line) {
			t.Errorf("%q is read", line)
		}
		if line != "1 2" && formOf("", make([]int, 2)).Read(line) {
			t.Errorf("%q is read without a word", line)
		}
	}
}

// taken returns the lines that are taken up to the line "x", and the number of
// this.
func taken(l *text.Lines, most int) (read []string, wrong int) {
	for range most {
		l.Take(func(line string) bool {
			read = append(read, line)
			return line != "x"
		})
	}
	return read, l.Wrong()
}

func TestLinesAreTakenUpToTheWrongOne(t *testing.T) {
	for _, x := range []struct {
		s     string
		most  int
		want  string
		wrong int
		isEnd bool
	}{
		{"a\nb\n", 2, "[a b]", 0, true},
		{"a\nb\n", 1, "[a]", 0, false},
		{"a\nb\n", 3, "[a b]", 3, true},
		{"a\nb\n", 9, "[a b]", 3, true},
		{"a\nb", 2, "[a]", 2, true},
		{"\n\n", 2, "[ ]", 0, true},
		{"", 1, "[]", 1, true},
		{"", 0, "[]", 0, true},
		{"a\nx\nb\n", 3, "[a x]", 2, true},
		{"x\nx\n", 2, "[x]", 1, true},
	} {
		l := text.LinesOf(x.s)
		read, wrong := taken(l, x.most)
		if fmt.Sprint(read) != x.want || wrong != x.wrong || l.IsEnd() != x.isEnd {
			t.Errorf("%q: %q, wrong %d, end %v", x.s, read, wrong, l.IsEnd())
		}
	}
}

func TestLinesAreAtAWord(t *testing.T) {
	l := text.LinesOf("a 1\nb\nab 2\n")
	for n, want := range []bool{true, false, false, false} {
		if l.IsAt("a") != want {
			t.Errorf("the line %d: %v", n, !want)
		}
		taken(l, 1)
	}
}

func TestALineBehindTheEndIsWrong(t *testing.T) {
	for _, x := range []struct {
		s     string
		most  int
		wrong int
	}{
		{"", 0, 0}, {"a\n", 1, 0}, {"a\n", 0, 1}, {"a\nb\n", 1, 2}, {"a\nb", 1, 2}, {"a\n\n", 1, 2}, {"x\nb\n", 2, 1}, {"a\n", 2, 2},
	} {
		l := text.LinesOf(x.s)
		taken(l, x.most)
		l.End()
		if l.Wrong() != x.wrong || !l.IsEnd() {
			t.Errorf("%q: wrong %d, end %v", x.s, l.Wrong(), l.IsEnd())
		}
	}
}
