// Package tariff has rates, extras, codes, fees, taxes and quotes.
package tariff

import (
	"cmp"
	"strings"

	"forecourt/api"
	"forecourt/basic"
)

// CheckRates says whether rates are right.
func CheckRates(l []api.Rate) api.Errno {
	if len(l) > api.MaxRates {
		return api.ErrLarge
	}
	for i, r := range l {
		if e := checkRate(r); e != api.OK {
			return e
		}
		if i == 0 {
			continue
		}
		before := l[i-1]
		switch {
		case compareRates(before, r) >= 0:
			return api.ErrOrder
		case before.Class == r.Class && before.To > r.From:
			return api.ErrConflict
		}
	}
	return api.OK
}

func checkRate(r api.Rate) api.Errno {
	if !basic.IsKey(r.Class) {
		return api.ErrName
	}
	if r.From < 0 || r.From >= r.To || r.To > api.MaxDay+1 {
		return api.ErrArg
	}
	for _, price := range [...]int{r.Hour, r.Day, r.Weekend, r.Week} {
		if !basic.Within(price, notOffered, api.MaxRate) {
			return api.ErrArg
		}
	}
	return api.OK
}

// notOffered is the price of what is not offered.
const notOffered = -1

func compareRates(a, b api.Rate) int {
	return cmp.Or(strings.Compare(a.Class, b.Class), cmp.Compare(a.From, b.From))
}

// RateOn is the rate of a class on a day.
func RateOn(l []api.Rate, class string, day int) (api.Rate, api.Errno) {
	if e := CheckRates(l); e != api.OK {
		return api.Rate{}, e
	}
	if !basic.IsKey(class) {
		return api.Rate{}, api.ErrName
	}
	if !basic.Within(day, 0, api.MaxDay) {
		return api.Rate{}, api.ErrArg
	}
	season := seasonOn(l, class, day)
	if season == nil {
		return api.Rate{}, api.ErrNone
	}
	return *season, api.OK
}

// seasonOn is the rate of a class on a day, among rates that are right; nil if there is none.
func seasonOn(l []api.Rate, class string, day int) *api.Rate {
	for i := range l {
		if r := &l[i]; r.Class == class && r.From <= day && day < r.To {
			return r
		}
	}
	return nil
}
