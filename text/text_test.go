package text_test

import (
	"strings"
	"testing"

	"couplant/text"
)

func TestNumbersAreRead(t *testing.T) {
	for _, x := range []struct {
		word   string
		digits int
		want   int
	}{
		{"0", 1, 0}, {"7", 1, 7}, {"-7", 1, -7}, {"10", 2, 10}, {"-10", 2, -10}, {"10", 3, 10},
		{"999999999", 9, 999999999}, {"-999999999", 9, -999999999},
		{"9999999999999", 13, 9999999999999},
		{"999999999999999999", 18, 999999999999999999}, {"-999999999999999999", 18, -999999999999999999},
	} {
		if n, isNumber := text.Number(x.word, x.digits); n != x.want || !isNumber {
			t.Errorf("%q: %d, %v", x.word, n, isNumber)
		}
	}
}

func TestWhatIsNoNumberIsNotRead(t *testing.T) {
	for _, word := range []string{
		"", "-", "--1", "+1", "+0", "-0", "00", "01", "-01", "1.0", "1.", "1e3", "1_000", "0x1", "0b1", "0o1",
		" 1", "1 ", "1\n", "1\x00", "x", "1x", "\u0661", "\uff11", "\u2212" + "1",
		"9223372036854775808", "-9223372036854775809", strings.Repeat("9", 1000),
	} {
		if n, isNumber := text.Number(word, 1000); n != 0 || isNumber {
			t.Errorf("%q: %d, %v", word, n, isNumber)
		}
	}
}

func TestNumbersOfTooManyDigitsAreNotRead(t *testing.T) {
	for word, digits := range map[string]int{
		"10": 1, "-10": 1, "1000000000": 9, "-1000000000": 9,
		"10000000000000": 13, "1000000000000000000": 18, "9223372036854775807": 18,
	} {
		if n, isNumber := text.Number(word, digits); n != 0 || isNumber {
			t.Errorf("%q: %d, %v", word, n, isNumber)
		}
	}
}
