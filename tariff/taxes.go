package tariff

import (
	"slices"

	"forecourt/api"
	"forecourt/basic"
)

// maxLines is how many lines there can be.
const maxLines = 1_000

// CheckTaxes says whether taxes are right.
func CheckTaxes(l []api.Tax) api.Errno {
	if len(l) > api.MaxTaxes {
		return api.ErrLarge
	}
	for i, x := range l {
		sameKey := func(before api.Tax) bool { return before.Key == x.Key }
		switch {
		case !basic.IsKey(x.Key):
			return api.ErrName
		case slices.ContainsFunc(l[:i], sameKey):
			return api.ErrTwice
		case !basic.Within(x.Permille, 0, basic.Whole):
			return api.ErrArg
		}
		if e := checkOn(x.On); e != api.OK {
			return e
		}
	}
	return api.OK
}

// checkOn says whether the kinds of lines that a tax is on are right.
func checkOn(kinds []int) api.Errno {
	before := 0 // less than all kinds
	for _, kind := range kinds {
		switch {
		case kind == api.LineTax || !isLineKind(kind):
			return api.ErrKind
		case kind <= before:
			return api.ErrOrder
		}
		before = kind
	}
	return api.OK
}

func isLineKind(kind int) bool { return basic.Within(kind, api.LinePiece, api.LineOther) }

// CheckLines says whether lines are right.
func CheckLines(l []api.Line) api.Errno {
	if len(l) > maxLines {
		return api.ErrLarge
	}
	for _, x := range l {
		switch {
		case !isLineKind(x.Kind):
			return api.ErrKind
		case !basic.IsKey(x.Key):
			return api.ErrName
		case !basic.Within(x.Cents, -api.MaxCents, api.MaxCents):
			return api.ErrArg
		}
	}
	return api.OK
}

// Total is the sum of the Cents of lines.
func Total(l []api.Line) (int, api.Errno) {
	if e := CheckLines(l); e != api.OK {
		return 0, e
	}
	return sumOf(l), api.OK
}

func sumOf(l []api.Line) int {
	sum := 0
	for _, x := range l {
		sum += x.Cents
	}
	return sum
}

// TaxLines returns the lines of taxes.
func TaxLines(taxes []api.Tax, l []api.Line) ([]api.Line, api.Errno) {
	if e := CheckTaxes(taxes); e != api.OK {
		return nil, e
	}
	if e := CheckLines(l); e != api.OK {
		return nil, e
	}
	if slices.ContainsFunc(l, func(x api.Line) bool { return x.Kind == api.LineTax }) {
		return nil, api.ErrKind
	}
	return taxLines(taxes, l), api.OK
}

// taxLines taxes lines that are right, and have no taxes yet.
func taxLines(taxes []api.Tax, l []api.Line) []api.Line {
	// The sum of all lines is at most 10^12, and each tax at most the sum of these and all taxes before it: times 1000 is far from an overflow.
	var sums [api.LineOther + 1]int
	for _, x := range l {
		sums[x.Kind] += x.Cents
	}
	var lines []api.Line
	for _, tax := range taxes {
		base := 0
		for _, kind := range tax.On {
			base += sums[kind]
		}
		if tax.Over {
			base += sumOf(lines)
		}
		lines = append(lines, api.Line{Kind: api.LineTax, Key: tax.Key, Cents: partOf(base, tax.Permille)})
	}
	return lines
}

// partOf is so many thousandths of a number, rounded to the nearest whole number, of two to the greater one.
func partOf(n, permille int) int {
	raised := n*permille + basic.Whole/2
	part := raised / basic.Whole
	// Go rounds towards 0.
	if raised%basic.Whole < 0 {
		part--
	}
	return part
}
