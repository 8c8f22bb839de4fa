package mark

import (
	"strings"

	"forecourt/api"
	"forecourt/basic"
)

// minStep is how many millimetres a square of a drawing has at least.
const minStep = 10

// Draw draws a panel with its marks.
func Draw(p api.Panel, step int, l []api.Mark) (string, api.Errno) {
	if e := CheckPanels([]api.Panel{p}); e != api.OK {
		return "", e
	}
	if !basic.Within(step, minStep, api.MaxSide) {
		return "", api.ErrArg
	}
	if e := checkForm(l); e != api.OK {
		return "", e
	}
	columns, rows := basic.Begun(p.Width, step), basic.Begun(p.Height, step)
	if rows*(columns+1) > api.MaxText {
		return "", api.ErrLarge
	}
	kinds := kindsIn(p, step, l)
	var text strings.Builder
	for row := range rows {
		for column := range columns {
			text.WriteByte(signOf(kinds[square{column, row}]))
		}
		text.WriteByte('\n')
	}
	return text.String(), api.OK
}

// square is a square of a drawing.
type square struct{ column, row int }

// kindsIn has the kinds of the marks of a panel in each square that has marks.
func kindsIn(p api.Panel, step int, l []api.Mark) map[square][]int {
	kinds := map[square][]int{}
	for _, m := range l {
		if m.Panel == p.Key && isOn(p, m) {
			in := square{m.X / step, m.Y / step}
			kinds[in] = append(kinds[in], m.Kind)
		}
	}
	return kinds
}

// kindSigns has the signs of single marks.
var kindSigns = [...]byte{
	api.MarkScratch: 's',
	api.MarkDent:    'd',
	api.MarkChip:    'c',
	api.MarkCrack:   'k',
}

// signOf is the sign of a square with marks of these kinds.
func signOf(kinds []int) byte {
	switch len(kinds) {
	case 0:
		return '.'
	case 1:
		return kindSigns[kinds[0]]
	}
	return '0' + byte(min(len(kinds), 9))
}

// kindWords has the words for the kinds of marks.
var kindWords = [...]string{
	api.MarkScratch: "scratch",
	api.MarkDent:    "dent",
	api.MarkChip:    "chip",
	api.MarkCrack:   "crack",
}

// kindWith is the kind with a word, which is not empty; 0 if there is none.
func kindWith(word string) int {
	for kind, w := range kindWords {
		if w == word {
			return kind
		}
	}
	return 0
}

// Text writes marks.
func Text(l []api.Mark) (string, api.Errno) {
	if e := checkForm(l); e != api.OK {
		return "", e
	}
	var lines basic.Writer
	for _, m := range l {
		numbers := basic.Decimals(m.X, m.Y, m.Size)
		lines.Line(append([]string{m.Panel, kindWords[m.Kind]}, numbers...)...)
	}
	return lines.Whole()
}

// Read reads marks.
func Read(text string) ([]api.Mark, int, api.Errno) {
	return basic.List(text, readMark, checkForm)
}

func readMark(words []string) (api.Mark, bool) {
	if len(words) < 2 {
		return api.Mark{}, false
	}
	m := api.Mark{Panel: words[0], Kind: kindWith(words[1])}
	ok := basic.Numbers(words[2:], &m.X, &m.Y, &m.Size)
	return m, ok && m.Kind != 0
}
