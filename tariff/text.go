package tariff

import (
	"forecourt/api"
	"forecourt/basic"
)

// Text writes rates.
func Text(l []api.Rate) (string, api.Errno) {
	if e := CheckRates(l); e != api.OK {
		return "", e
	}
	var lines basic.Writer
	for _, r := range l {
		numbers := basic.Decimals(r.From, r.To, r.Hour, r.Day, r.Weekend, r.Week)
		lines.Line(append([]string{r.Class}, numbers...)...)
	}
	return lines.Whole()
}

// Read reads rates.
func Read(text string) ([]api.Rate, int, api.Errno) {
	return basic.List(text, readRate, CheckRates)
}

func readRate(words []string) (api.Rate, bool) {
	if len(words) == 0 {
		return api.Rate{}, false
	}
	r := api.Rate{Class: words[0]}
	ok := basic.Numbers(words[1:], &r.From, &r.To, &r.Hour, &r.Day, &r.Weekend, &r.Week)
	return r, ok
}
