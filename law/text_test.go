package law_test

import (
	"strings"
	"testing"

	"couplant/api"
	"couplant/law"
)

// P2.6

func TestFormatLaw(t *testing.T) {
	for _, x := range []struct {
		l    api.DelayLaw
		want string
	}{
		{of(-1, 0), "1000 - 0"},
		{of(1200, 0), "1000 1200 0"},
		{of(1000000), "1000 1000000"},
		{of(), "1000"},
		{api.DelayLaw{}, "0"},
		{api.DelayLaw{Clock: -7, Ticks: []int{-2, -huge - 1, huge}}, "-7 - - 9223372036854775807"},
		{api.DelayLaw{Clock: -huge - 1}, "-9223372036854775808"},
		{manyTicks(40), "1000" + strings.Repeat(" 0", 40)},
	} {
		if s := law.FormatLaw(x.l); s != x.want {
			t.Errorf("FormatLaw: %q; want %q", s, x.want)
		}
	}
}

func TestParseLaw(t *testing.T) {
	for _, x := range []struct {
		s    string
		want api.DelayLaw
	}{
		{"1000 - 0", of(-1, 0)},
		{"1000 1200 0", of(1200, 0)},
		{"1 1000000", api.DelayLaw{Clock: 1, Ticks: []int{1000000}}},
		{"1000000 -", api.DelayLaw{Clock: 1000000, Ticks: []int{-1}}},
		{"1000" + strings.Repeat(" 0", 16), manyTicks(16)},
	} {
		l, e := law.ParseLaw(x.s)
		expect(t, "ParseLaw", l, e, x.want, api.OK)
	}
}

func TestParseLawRefusesWhatIsNoText(t *testing.T) {
	for _, s := range []string{
		"", " ", "-", "- 1", "--1 1", "+1000 1", "01000 1", "00 1", "-0 1", "-01 1", "1e3 1", "1_000 1", "0x3e8 1", "1000. 1", "x 1",
		" 1000 1", "1000 1 ", "1000  1", "1000\t1", "1000\n1", "1000 1\n", "1000,1", "1000 1\x00", "1000 ",
		"1000 -5", "1000 -1", "1000 --", "1000 -0", "1000 +5", "1000 05", "1000 00", "1000 1.0", "1000 x", "1000 0 ½",
		"1000 ١",
		// More than 9 digits.
		"1234567890 1", "-1234567890 1", "1000000000 1", "1000 1000000000", "1000 0000000001",
		"9223372036854775808 1", "1000 99999999999999999999",
		// A text that is none is told ahead of a law that is wrong.
		"0 x", "1000001 0 05", "1000" + strings.Repeat(" 0", 17) + " x", "1000 1000001 x", "-5 -5",
	} {
		l, e := law.ParseLaw(s)
		expect(t, "ParseLaw of "+s, l, e, none, api.ErrSyntax)
	}
}

func TestParseLawRefusesWrongLaws(t *testing.T) {
	for _, x := range []struct {
		s    string
		want api.Errno
	}{
		{"0 1", api.ErrRange},
		{"0", api.ErrRange},
		{"-5 1", api.ErrRange},
		{"-999999999 1", api.ErrRange},
		{"1000001 1", api.ErrRange},
		{"999999999", api.ErrRange},
		{"1000", api.ErrShape},
		{"1000" + strings.Repeat(" -", 17), api.ErrLarge},
		{"1000 999999999" + strings.Repeat(" -", 16), api.ErrLarge},
		{"1000 1000001", api.ErrRange},
		{"1000 0 999999999", api.ErrRange},
	} {
		l, e := law.ParseLaw(x.s)
		expect(t, "ParseLaw of "+x.s, l, e, none, x.want)
	}
}

// P2.10, of texts

func TestParseLawUndoesFormatLaw(t *testing.T) {
	var n numbers = 13
	for range 500 {
		l := n.law(manyElements(n.from(1, 16)))
		r, e := law.ParseLaw(law.FormatLaw(l))
		expect(t, "ParseLaw", r, e, l, api.OK)
	}
}
