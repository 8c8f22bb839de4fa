package tariff

import (
	"cmp"
	"slices"
	"strings"

	"forecourt/api"
	"forecourt/basic"
)

// CheckExtras says whether extras are right.
func CheckExtras(l []api.Extra) api.Errno {
	if len(l) > api.MaxExtras {
		return api.ErrLarge
	}
	before := "" // less than all keys
	for _, x := range l {
		switch {
		case !basic.IsKey(x.Key):
			return api.ErrName
		case x.Key <= before:
			return api.ErrOrder
		case !basic.Within(x.Once, 0, api.MaxRate) || !basic.Within(x.Day, 0, api.MaxRate) || !basic.Within(x.Most, unbounded, api.MaxRate):
			return api.ErrArg
		}
		before = x.Key
	}
	return api.OK
}

// unbounded is the Most of an extra without a bound.
const unbounded = -1

// ExtraCost is what an extra costs.
func ExtraCost(l []api.Extra, key string, days int) (int, api.Errno) {
	if e := CheckExtras(l); e != api.OK {
		return 0, e
	}
	at := indexOfExtra(l, key)
	if at < 0 {
		return 0, api.ErrNone
	}
	if !basic.Within(days, 1, api.MaxDays) {
		return 0, api.ErrArg
	}
	return costOfExtra(l[at], days), api.OK
}

// indexOfExtra is the place of an extra; -1 if there is none.
func indexOfExtra(l []api.Extra, key string) int {
	return slices.IndexFunc(l, func(x api.Extra) bool { return x.Key == key })
}

func costOfExtra(x api.Extra, days int) int {
	byDays := x.Day * days
	if x.Most != unbounded {
		byDays = min(byDays, x.Most)
	}
	return x.Once + byDays
}

// checkAsked says whether the extras or codes of an ask are right: not too many, known, and each one there once.
func checkAsked(keys []string, known func(key string) bool) api.Errno {
	if len(keys) > api.MaxAsked {
		return api.ErrLarge
	}
	for i, key := range keys {
		switch {
		case !known(key):
			return api.ErrNone
		case slices.Contains(keys[:i], key):
			return api.ErrTwice
		}
	}
	return api.OK
}

// CheckFees says whether fees are right.
func CheckFees(l []api.Fee) api.Errno {
	if len(l) > api.MaxFees {
		return api.ErrLarge
	}
	for i, f := range l {
		switch {
		case !basic.IsKey(f.A) || !basic.IsKey(f.B):
			return api.ErrName
		case f.A == f.B:
			return api.ErrLoop
		case i > 0 && compareFees(l[i-1], f) >= 0:
			return api.ErrOrder
		case !basic.Within(f.Cents, 0, api.MaxRate):
			return api.ErrArg
		}
	}
	return api.OK
}

func compareFees(x, y api.Fee) int {
	return cmp.Or(strings.Compare(x.A, y.A), strings.Compare(x.B, y.B))
}

// FeeOf is the fee from a station to another one.
func FeeOf(l []api.Fee, a, b string) (int, api.Errno) {
	if e := CheckFees(l); e != api.OK {
		return 0, e
	}
	if !basic.IsKey(a) || !basic.IsKey(b) {
		return 0, api.ErrName
	}
	if a == b {
		return 0, api.OK
	}
	at, found := slices.BinarySearchFunc(l, api.Fee{A: a, B: b}, compareFees)
	if !found {
		return 0, api.ErrNone
	}
	return l[at].Cents, api.OK
}
