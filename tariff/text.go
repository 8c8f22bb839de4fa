package tariff

import (
	"strconv"

	"forecourt/api"
	"forecourt/basic"
)

// Text writes rates.
func Text(l []api.Rate) (string, api.Errno) {
	if e := CheckRates(l); e != api.OK {
		return "", e
	}
	var lines basic.Writer
	for _, r := range l {
		words := []string{r.Class}
		for _, n := range [...]int{r.From, r.To, r.Hour, r.Day, r.Weekend, r.Week} {
			words = append(words, strconv.Itoa(n))
		}
		lines.Line(words...)
	}
	return lines.Whole()
}

// Read reads rates.
func Read(text string) ([]api.Rate, int, api.Errno) {
	var l []api.Rate
	line, e := basic.Lines(text, func(line string) bool {
		r, ok := readRate(basic.Words(line))
		if ok {
			l = append(l, r)
		}
		return ok
	})
	if e != api.OK {
		return nil, line, e
	}
	if e := CheckRates(l); e != api.OK {
		return nil, 0, e
	}
	return l, 0, api.OK
}

func readRate(words []string) (api.Rate, bool) {
	if len(words) != 7 {
		return api.Rate{}, false
	}
	r := api.Rate{Class: words[0]}
	for i, field := range [...]*int{&r.From, &r.To, &r.Hour, &r.Day, &r.Weekend, &r.Week} {
		n, ok := basic.Number(words[1+i])
		if !ok {
			return api.Rate{}, false
		}
		*field = n
	}
	return r, true
}
