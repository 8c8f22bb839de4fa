package shift

import (
	"strconv"

	"forecourt/api"
	"forecourt/basic"
)

// Text writes moves.
func Text(l []api.Move) (string, api.Errno) {
	if e := checkForm(l); e != api.OK {
		return "", e
	}
	var lines basic.Writer
	for _, m := range l {
		lines.Line(m.A, m.B, strconv.Itoa(m.Many))
	}
	return lines.Whole()
}

// Read reads moves.
func Read(text string) ([]api.Move, int, api.Errno) {
	return basic.List(text, readMove, checkForm)
}

func readMove(words []string) (api.Move, bool) {
	if len(words) != 3 {
		return api.Move{}, false
	}
	many, ok := basic.Number(words[2])
	return api.Move{A: words[0], B: words[1], Many: many}, ok
}
