package text_test

import (
	"fmt"
	"slices"
	"testing"

	"couplant/api"
	"couplant/text"
)

// formOf returns the form of lines of some numbers of at most three digits.
func formOf(word string, numbers []int) text.Form {
	return text.Form{Word: word, Digits: 3, Numbers: text.Places(numbers)}
}

func TestFormsAreWritten(t *testing.T) {
	for _, x := range []struct {
		word    string
		numbers []int
		want    string
	}{
		{"step", []int{1, -20}, "step 1 -20"},
		{"step", nil, "step"},
		{"", []int{1, -20}, "1 -20"},
		{"", []int{7}, "7"},
		// How many digits there are is asked of lines that are read alone.
		{"step", []int{12345}, "step 12345"},
	} {
		if s := formOf(x.word, x.numbers).Write(); s != x.want {
			t.Errorf("%q; want %q", s, x.want)
		}
	}
	lines := []text.Form{formOf("step", []int{1, 2}), formOf("", []int{3})}
	if s := text.Print(lines); s != "step 1 2\n3\n" {
		t.Errorf("%q", s)
	}
	if s := text.Print(nil); s != "" {
		t.Errorf("%q", s)
	}
}

func TestFormsAreRead(t *testing.T) {
	for line, word := range map[string]string{"step 1 -20": "step", "1 -20": ""} {
		numbers := make([]int, 2)
		if !formOf(word, numbers).Read(line) || numbers[0] != 1 || numbers[1] != -20 {
			t.Errorf("%q: %v", line, numbers)
		}
	}
	if !formOf("step", nil).Read("step") {
		t.Error("a word alone is not read")
	}
}

// named returns the form of lines with a name of their own.
func named(word string, name *string, numbers []int) text.Form {
	f := formOf(word, numbers)
	f.Name = name
	return f
}

func TestNamesAreWrittenAndRead(t *testing.T) {
	for _, x := range []struct {
		line, word, name string
		numbers          []int
	}{
		{"weld 1 -20", "", "weld", []int{1, -20}},
		{"step weld 1 -20", "step", "weld", []int{1, -20}},
		{" 1 -20", "", "", []int{1, -20}},
		{"step  1 -20", "step", "", []int{1, -20}},
		{"weld", "", "weld", nil},
		{"", "", "", nil},
		{"step ", "step", "", nil},
		{"7 1", "", "7", []int{1}},
		{"\ta\r\x00\xff 1", "", "\ta\r\x00\xff", []int{1}},
	} {
		if s := named(x.word, &x.name, x.numbers).Write(); s != x.line {
			t.Errorf("%q; want %q", s, x.line)
		}
		name, numbers := "other", make([]int, len(x.numbers))
		if !named(x.word, &name, numbers).Read(x.line) || name != x.name || !slices.Equal(numbers, x.numbers) {
			t.Errorf("%q: %q, %v", x.line, name, numbers)
		}
	}
	// What cannot be read can be written.
	name := "a b\n"
	if s := named("", &name, []int{1}).Write(); s != "a b\n 1" {
		t.Errorf("%q", s)
	}
}

func TestWhatHasNoNameIsNotRead(t *testing.T) {
	for _, line := range []string{
		"", "1", "1 2", "a b 1 2", "a 1 2 3", "a 1", "a  1 2", " a 1 2", "a 1 2 ", "a x 2", "a 1 2\n", "a\n 1 2", "\n 1 2", "\na 1 2", "a\t1 2", "step 1 2 a",
	} {
		name := ""
		if named("", &name, make([]int, 2)).Read(line) {
			t.Errorf("%q is read", line)
		}
	}
	for _, line := range []string{"a 1 2", "step 1 2", "step a 1", "step a b 1 2", "a step 1 2", "step a\n 1 2", "step\na 1 2"} {
		name := ""
		if named("step", &name, make([]int, 2)).Read(line) {
			t.Errorf("%q is read", line)
		}
	}
}

func TestOtherFormsAreNotRead(t *testing.T) {
	for _, line := range []string{
		"", " ", "step", "step 1", "step 1 2 3", "step 1 2 ", " step 1 2", "step  1 2", "steps 1 2", "Step 1 2",
		"step 1 02", "step 1 1000", "step x 2", "step 1 2\n", "step\t1 2", "1 2", "1", "1 2 3", " 1 2",
	} {
		if formOf("step", make([]int, 2)).Read(line) {
			t.Errorf("%q is read", line)
		}
		if line != "1 2" && formOf("", make([]int, 2)).Read(line) {
			t.Errorf("%q is read without a word", line)
		}
	}
}

func TestLinesAreParsed(t *testing.T) {
	type pair struct {
		name   string
		number int
	}
	formOf := func(x *pair) text.Form {
		return text.Form{Name: &x.name, Digits: 3, Numbers: []*int{&x.number}}
	}
	wrong := func(x pair) api.Errno { return api.Errno(x.number) }
	for line, want := range map[string]pair{"a 0": {"a", 0}, " 0": {"", 0}} {
		if x, e := text.Parse(line, formOf, wrong); x != want || e != api.OK {
			t.Errorf("%q: %v, error %d", line, x, e)
		}
	}
	for line, want := range map[string]api.Errno{"a": api.ErrSyntax, "a x": api.ErrSyntax, "a 7 7": api.ErrSyntax, "a 2": api.ErrRange, "a -7": -7} {
		if x, e := text.Parse(line, formOf, wrong); x != (pair{}) || e != want {
			t.Errorf("%q: %v, error %d", line, x, e)
		}
	}
}

// taken returns the lines that are taken up to the line "x", and the number of
// this.
func taken(l *text.Lines, most int) (read []string, wrong int) {
	for range most {
		l.Take(func(line string) bool {
			read = append(read, line)
			return line != "x"
		})
	}
	return read, l.Wrong()
}

func TestLinesAreTakenUpToTheWrongOne(t *testing.T) {
	for _, x := range []struct {
		s     string
		most  int
		want  string
		wrong int
		isEnd bool
	}{
		{"a\nb\n", 2, "[a b]", 0, true},
		{"a\nb\n", 1, "[a]", 0, false},
		{"a\nb\n", 3, "[a b]", 3, true},
		{"a\nb\n", 9, "[a b]", 3, true},
		{"a\nb", 2, "[a]", 2, true},
		{"\n\n", 2, "[ ]", 0, true},
		{"", 1, "[]", 1, true},
		{"", 0, "[]", 0, true},
		{"a\nx\nb\n", 3, "[a x]", 2, true},
		{"x\nx\n", 2, "[x]", 1, true},
	} {
		l := text.LinesOf(x.s)
		read, wrong := taken(l, x.most)
		if fmt.Sprint(read) != x.want || wrong != x.wrong || l.IsEnd() != x.isEnd {
			t.Errorf("%q: %q, wrong %d, end %v", x.s, read, wrong, l.IsEnd())
		}
	}
}

func TestLinesAreAtAWord(t *testing.T) {
	l := text.LinesOf("a 1\nb\nab 2\n")
	for n, want := range []bool{true, false, false, false} {
		if l.IsAt("a") != want {
			t.Errorf("the line %d: %v", n, !want)
		}
		taken(l, 1)
	}
}

func TestALineBehindTheEndIsWrong(t *testing.T) {
	for _, x := range []struct {
		s     string
		most  int
		wrong int
	}{
		{"", 0, 0}, {"a\n", 1, 0}, {"a\n", 0, 1}, {"a\nb\n", 1, 2}, {"a\nb", 1, 2}, {"a\n\n", 1, 2}, {"x\nb\n", 2, 1}, {"a\n", 2, 2},
	} {
		l := text.LinesOf(x.s)
		taken(l, x.most)
		l.End()
		if l.Wrong() != x.wrong || !l.IsEnd() {
			t.Errorf("%q: wrong %d, end %v", x.s, l.Wrong(), l.IsEnd())
		}
	}
}
