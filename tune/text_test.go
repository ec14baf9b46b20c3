package tune_test

import (
	"math"
	"strings"
	"testing"

	"couplant/api"
	"couplant/tune"
)

// P6.7

func TestFormatEvent(t *testing.T) {
	for want, x := range map[string]api.TuneEvent{
		"10 1 210":     done()[1],
		"0 0 0":        {},
		"20 -1 -251":   {Minute: 20, Step: -1, Warmth: -251},
		"-5 77 999999": {Minute: -5, Step: 77, Warmth: 999999},
		"9223372036854775807 -9223372036854775808 1000000000": {Minute: math.MaxInt, Step: math.MinInt, Warmth: 1000000000},
	} {
		expectAlike(t, "FormatEvent", tune.FormatEvent(x), want)
	}
}

func TestParseEvent(t *testing.T) {
	for s, want := range map[string]api.TuneEvent{
		"10 1 210":                        done()[1],
		"0 0 0":                           {},
		"20 -1 -251":                      {Minute: 20, Step: -1, Warmth: -251},
		"-5 77 999999":                    {Minute: -5, Step: 77, Warmth: 999999},
		"999999999 -999999999 -999999999": {Minute: 999999999, Step: -999999999, Warmth: -999999999},
	} {
		expectAlike(t, "ParseEvent", must(tune.ParseEvent(s)), want)
	}
}

func TestWhatIsNoEvent(t *testing.T) {
	for _, s := range []string{
		"", " ", "  ", "10", "10 1", "10 1 ", "10 1 210 ", " 10 1 210", "10  1 210", "10 1 210 4", "10 1 210\n", "10\t1 210", "10\n1 210",
		"10 1 x", "x 1 210", "10 x 210", "10 1 +210", "010 1 210", "10 -0 210", "10 1 00", "10 1 -01", "10 1 -", "10 1 --1", "10 1 2.0", "10 1 0x1",
		"1000000000 1 210", "10 1000000000 210", "10 1 -1000000000", "10 1 0000000001", "9223372036854775808 1 210", "10 1 \u0661", "10\u00a01 210",
		"step 10 1 210", "10,1,210", "10 1 210\x00", strings.Repeat("1 ", 100000), strings.Repeat("1", 100000) + " 1 1",
	} {
		x, e := tune.ParseEvent(s)
		refused(t, "ParseEvent", x, e, api.ErrSyntax)
	}
}

// P6.11

func TestParseEventUndoesFormatEvent(t *testing.T) {
	var n numbers = 17
	for range 1000 {
		var x api.TuneEvent
		for _, part := range []*int{&x.Minute, &x.Step, &x.Warmth} {
			most := []int{9, 99999, 999999999}[n.from(0, 2)]
			*part = n.from(-most, most)
		}
		expectAlike(t, "ParseEvent", must(tune.ParseEvent(tune.FormatEvent(x))), x)
	}
}

// A text that is read is just the one that is written.
func TestFormatEventUndoesParseEvent(t *testing.T) {
	var n numbers = 18
	read := 0
	for range 20000 {
		var b strings.Builder
		for range n.from(5, 8) {
			b.WriteByte("0123  -"[n.from(0, 6)])
		}
		x, e := tune.ParseEvent(b.String())
		if e == api.OK {
			expectAlike(t, "FormatEvent", tune.FormatEvent(x), b.String())
			read++
		}
	}
	if read < 100 {
		t.Errorf("only %d are read", read)
	}
}
