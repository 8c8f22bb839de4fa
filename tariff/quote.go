package tariff

import (
	"cmp"
	"slices"
	"strings"

	"forecourt/api"
	"forecourt/basic"
)

// Check says whether a tariff is right.
func Check(t api.Tariff) api.Errno {
	if e := CheckRates(t.Rates); e != api.OK {
		return e
	}
	if e := CheckExtras(t.Extras); e != api.OK {
		return e
	}
	if e := CheckFees(t.Fees); e != api.OK {
		return e
	}
	if e := CheckCodes(t.Codes); e != api.OK {
		return e
	}
	return CheckTaxes(t.Taxes)
}

// pieceKeys has the keys of the lines of pieces.
var pieceKeys = [...]string{
	api.PieceHours:   "hours",
	api.PieceDay:     "day",
	api.PieceWeekend: "weekend",
	api.PieceWeek:    "week",
}

// feeKey is the key of the line of a fee.
const feeKey = "oneway"

// Quote returns the lines of an ask.
func Quote(t api.Tariff, a api.Ask) ([]api.Line, api.Errno) {
	if e := Check(t); e != api.OK {
		return nil, e
	}
	if e := checkAskedExtras(t, a); e != api.OK {
		return nil, e
	}
	pieces, e := Divide(t.Rates, a.Class, a.Time)
	if e != api.OK {
		return nil, e
	}
	lines := pieceLines(pieces)
	code, off, e := BestCode(t.Codes, a.Codes, a.Class, a.Time, sumOf(lines))
	if e != api.OK {
		return nil, e
	}
	fee, e := FeeOf(t.Fees, a.A, a.B)
	if e != api.OK {
		return nil, e
	}
	if code != "" {
		lines = append(lines, api.Line{Kind: api.LineCode, Key: code, Cents: -off})
	}
	lines = append(lines, extraLines(t, a)...)
	if a.A != a.B {
		lines = append(lines, api.Line{Kind: api.LineFee, Key: feeKey, Cents: fee})
	}
	return append(lines, taxLines(t.Taxes, lines)...), api.OK
}

func checkAskedExtras(t api.Tariff, a api.Ask) api.Errno {
	return checkAsked(a.Extras, func(key string) bool { return indexOfExtra(t.Extras, key) >= 0 })
}

func pieceLines(pieces []api.Piece) []api.Line {
	var lines []api.Line
	for _, p := range pieces {
		lines = append(lines, api.Line{Kind: api.LinePiece, Key: pieceKeys[p.Kind], Cents: p.Cents})
	}
	return lines
}

// extraLines has the lines of the extras of an ask, which are known, and whose time is right.
func extraLines(t api.Tariff, a api.Ask) []api.Line {
	days, _ := Days(a.Time)
	var lines []api.Line
	for _, key := range a.Extras {
		extra := t.Extras[indexOfExtra(t.Extras, key)]
		lines = append(lines, api.Line{Kind: api.LineExtra, Key: key, Cents: costOfExtra(extra, days)})
	}
	return lines
}

// Offers returns what some classes would cost.
func Offers(t api.Tariff, classes []string, a api.Ask) ([]api.Offer, api.Errno) {
	if e := checkOffers(t, classes, a); e != api.OK {
		return nil, e
	}
	var offers []api.Offer
	for _, class := range classes {
		a.Class = class
		if lines, e := Quote(t, a); e == api.OK {
			// Not Total: it refuses lines of taxes above MaxCents.
			offers = append(offers, api.Offer{Class: class, Cents: sumOf(lines)})
		}
	}
	slices.SortFunc(offers, func(x, y api.Offer) int {
		return cmp.Or(cmp.Compare(x.Cents, y.Cents), strings.Compare(x.Class, y.Class))
	})
	return offers, api.OK
}

func checkOffers(t api.Tariff, classes []string, a api.Ask) api.Errno {
	if e := Check(t); e != api.OK {
		return e
	}
	if len(classes) > api.MaxClasses {
		return api.ErrLarge
	}
	for i, class := range classes {
		switch {
		case !basic.IsKey(class):
			return api.ErrName
		case slices.Contains(classes[:i], class):
			return api.ErrTwice
		}
	}
	if e := checkAskedExtras(t, a); e != api.OK {
		return e
	}
	return checkTime(a.Time)
}
