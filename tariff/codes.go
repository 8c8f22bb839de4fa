package tariff

import (
	"slices"

	"forecourt/api"
	"forecourt/basic"
)

// CheckCodes says whether codes are right.
func CheckCodes(l []api.Code) api.Errno {
	if len(l) > api.MaxCodes {
		return api.ErrLarge
	}
	before := "" // less than all keys
	for _, c := range l {
		switch {
		case !basic.IsKey(c.Key):
			return api.ErrName
		case c.Key <= before:
			return api.ErrOrder
		case c.Class != "" && !basic.IsKey(c.Class):
			return api.ErrName
		case c.From < 0 || c.From > c.To || c.To > api.MaxDay+1:
			return api.ErrArg
		case !basic.Within(c.Days, 1, api.MaxDays) || !basic.Within(c.Permille, 1, basic.Whole):
			return api.ErrArg
		}
		before = c.Key
	}
	return api.OK
}

// BestCode is the code that takes the most off.
func BestCode(l []api.Code, keys []string, class string, w api.Window, cents int) (string, int, api.Errno) {
	if e := checkBestCode(l, keys, class, w, cents); e != api.OK {
		return "", 0, e
	}
	best, most := "", 0
	// The codes are in order of their keys: of several that take the same off, the first one is the least.
	for _, c := range l {
		if !slices.Contains(keys, c.Key) || !counts(c, class, w) {
			continue
		}
		if off := cents * c.Permille / basic.Whole; best == "" || off > most {
			best, most = c.Key, off
		}
	}
	return best, most, api.OK
}

func checkBestCode(l []api.Code, keys []string, class string, w api.Window, cents int) api.Errno {
	if e := CheckCodes(l); e != api.OK {
		return e
	}
	known := func(key string) bool {
		return slices.ContainsFunc(l, func(c api.Code) bool { return c.Key == key })
	}
	if e := checkAsked(keys, known); e != api.OK {
		return e
	}
	if !basic.IsKey(class) {
		return api.ErrName
	}
	if e := checkTime(w); e != api.OK {
		return e
	}
	if !basic.Within(cents, 0, api.MaxCents) {
		return api.ErrArg
	}
	return api.OK
}

// counts says whether a code counts for a hire of a class, whose time is right.
func counts(c api.Code, class string, w api.Window) bool {
	day := w.From / api.DayLong
	days, _ := Days(w)
	return (c.Class == "" || c.Class == class) && c.From <= day && day < c.To && days >= c.Days
}
