package toll

import (
	"strconv"

	"forecourt/api"
	"forecourt/basic"
)

// Text writes passages.
func Text(l []api.Passage) (string, api.Errno) {
	if e := checkForm(l); e != api.OK {
		return "", e
	}
	var lines basic.Writer
	for _, p := range l {
		lines.Line(strconv.Itoa(p.At), p.Gate, p.Plate, strconv.Itoa(p.Cents))
	}
	return lines.Whole()
}

// Read reads passages.
func Read(text string) ([]api.Passage, int, api.Errno) {
	return basic.List(text, readPassage, checkForm)
}

func readPassage(words []string) (api.Passage, bool) {
	if len(words) != 4 {
		return api.Passage{}, false
	}
	p := api.Passage{Gate: words[1], Plate: words[2]}
	ok := basic.Numbers([]string{words[0], words[3]}, &p.At, &p.Cents)
	return p, ok
}
