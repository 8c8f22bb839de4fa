package desk

import (
	"strconv"
	"strings"

	"forecourt/api"
	"forecourt/basic"
)

// Text writes entries.
func Text(l []api.Entry) (string, api.Errno) {
	if e := Check(l); e != api.OK {
		return "", e
	}
	var lines basic.Writer
	for _, x := range l {
		lines.Line(strconv.Itoa(x.At), x.Desk, strconv.Itoa(x.No), x.Words)
	}
	return lines.Whole()
}

// Read reads entries.
func Read(text string) ([]api.Entry, int, api.Errno) {
	var l []api.Entry
	line, e := basic.Lines(text, func(line string) bool {
		x, ok := readEntry(line)
		l = append(l, x)
		return ok
	})
	if e == api.OK {
		e = Check(l)
	}
	if e != api.OK {
		return nil, line, e
	}
	return l, 0, api.OK
}

func readEntry(line string) (api.Entry, bool) {
	parts := strings.SplitN(line, " ", 4)
	if len(parts) < 4 {
		return api.Entry{}, false
	}
	x := api.Entry{Desk: parts[1], Words: parts[3]}
	ok := basic.Numbers([]string{parts[0], parts[2]}, &x.At, &x.No)
	return x, ok && x.Desk != "" && x.Words != ""
}
