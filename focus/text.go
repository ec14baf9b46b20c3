package focus

import (
	"slices"

	"couplant/api"
	"couplant/text"
)

// gridWord is the word with which the text of powers begins.
const gridWord = "grid"

// maxDigits is how many digits a number of a text may have.
const maxDigits = 18

func gridForm(g *api.FocusGrid) text.Form {
	numbers := []*int{&g.From.X, &g.From.Z, &g.Columns, &g.Rows, &g.Step}
	return text.Form{Word: gridWord, Digits: maxDigits, Numbers: numbers}
}

func rowForm(row []int) text.Form {
	return text.Form{Digits: maxDigits, Numbers: text.Places(row)}
}

// PrintPowers returns the text of powers.
func PrintPowers(g api.FocusGrid, powers []int) (string, api.Errno) {
	if e := powersError(g, powers); e != api.OK {
		return "", e
	}
	lines := []text.Form{gridForm(&g)}
	for row := range slices.Chunk(powers, g.Columns) {
		lines = append(lines, rowForm(row))
	}
	return text.Print(lines), api.OK
}

// ParsePowers returns the grid and the powers with a text; or the error, and the
// number of the first line that has not its form.
func ParsePowers(s string) (api.FocusGrid, []int, int, api.Errno) {
	if len(s) > api.MaxText {
		return api.FocusGrid{}, nil, 0, api.ErrLarge
	}
	g, powers, wrong := powersWith(s)
	if wrong > 0 {
		return api.FocusGrid{}, nil, wrong, api.ErrSyntax
	}
	if e := powersError(g, powers); e != api.OK {
		return api.FocusGrid{}, nil, 0, e
	}
	return g, powers, 0, api.OK
}

// powersWith returns the grid and the powers with a text, right or not, and the
// number of the first line that has not its form, or 0.
func powersWith(s string) (g api.FocusGrid, powers []int, wrong int) {
	lines := text.LinesOf(s)
	lines.Take(func(line string) bool {
		return gridForm(&g).Read(line) && sidesError(g) == api.OK
	})
	if lines.Wrong() > 0 {
		return g, nil, lines.Wrong()
	}
	powers = make([]int, g.Columns*g.Rows)
	for row := range slices.Chunk(powers, g.Columns) {
		lines.Take(rowForm(row).Read)
	}
	lines.End()
	return g, powers, lines.Wrong()
}
