// Package desk has entries of stations, the office that comes of them, and a console.
package desk

import (
	"cmp"
	"slices"
	"strings"

	"forecourt/api"
	"forecourt/basic"
	"forecourt/hire"
	"forecourt/lot"
	"forecourt/tariff"
)

// maxNo is the greatest number of an entry.
const maxNo = 1_000_000

// CheckHouse says whether a house is right.
func CheckHouse(h api.House) api.Errno {
	if e := lot.CheckFleet(h.Fleet); e != api.OK {
		return e
	}
	if e := tariff.Check(h.Tariff); e != api.OK {
		return e
	}
	return hire.CheckDeal(h.Deal)
}

// name is what an entry is known by: each desk counts its own ones.
type name struct {
	desk string
	no   int
}

func nameOf(x api.Entry) name { return name{x.Desk, x.No} }

// Check says whether entries are right.
func Check(l []api.Entry) api.Errno {
	if len(l) > api.MaxEntries {
		return api.ErrLarge
	}
	names := make(map[name]bool, len(l))
	for i, x := range l {
		switch {
		case !basic.IsMoment(x.At):
			return api.ErrArg
		case !basic.IsKey(x.Desk):
			return api.ErrName
		case !basic.Within(x.No, 1, maxNo):
			return api.ErrArg
		case !areWords(x.Words):
			return api.ErrForm
		case i > 0 && compareEntries(l[i-1], x) >= 0:
			return api.ErrOrder
		case names[nameOf(x)]:
			return api.ErrTwice
		}
		names[nameOf(x)] = true
	}
	return api.OK
}

// areWords says whether an entry can have these words, whatever they say.
func areWords(s string) bool {
	if !basic.Within(len(s), 1, api.MaxWords) {
		return false
	}
	for i := range len(s) {
		if c := s[i]; c < ' ' || c > '~' {
			return false
		}
	}
	return true
}

func compareEntries(a, b api.Entry) int {
	return cmp.Or(cmp.Compare(a.At, b.At), strings.Compare(a.Desk, b.Desk), cmp.Compare(a.No, b.No))
}

// Merge puts two lists together.
func Merge(a, b []api.Entry) ([]api.Entry, api.Errno) {
	if e := Check(a); e != api.OK {
		return nil, e
	}
	if e := Check(b); e != api.OK {
		return nil, e
	}
	// The same entry at two moments is at two places of the order, where basic.Merge does not see both.
	named := make(map[name]api.Entry, len(a))
	for _, x := range a {
		named[nameOf(x)] = x
	}
	differs := func(x api.Entry) bool {
		other, both := named[nameOf(x)]
		return both && other != x
	}
	if slices.ContainsFunc(b, differs) {
		return nil, api.ErrConflict
	}
	return basic.Merge(a, b, compareEntries, api.MaxEntries)
}
